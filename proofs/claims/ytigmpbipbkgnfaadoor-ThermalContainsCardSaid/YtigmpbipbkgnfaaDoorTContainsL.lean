/-
  The statement ThermalContains of spile/spilelaw05 holds: for every input the call returns true, and each argument reads afterwards as it read before. (The listed package variables hold what the program lays: the card ties them.)
-/
import Derived.Test.YtigmpbipbkgnfaaDoorTO
import Derived.Test.YtigmpbipbkgnfaaDoorCards
import Derived.Test.YtigmpbipbkgnfaaDoorTie
import Derived.Below
import Derived.Carry
import Derived.Lib.LaidTab
import Derived.Deep.DeepHandedRow
import Derived.SevenTiedPlain
namespace Go.Proofs.YtigmpbipbkgnfaaDoor.thermalContains
open Go.ChangeShapes Go.WideShapes Go.ChangeAt Go.RowKit
open Go.ChangeMaps (open_string shut_string)
set_option linter.unusedVariables false

theorem place_v (lo hi p : Int) (h : lo ≤ hi) (p0 : 0 ≤ p) (p1 : p ≤ 255) : 0 ≤ (hi - lo) / 255 * p ∧ (hi - lo) / 255 * p ≤ hi - lo := by
  have d0 : 0 ≤ (hi - lo) / 255 := Int.ediv_nonneg (by omega) (by omega)
  have h1 := Int.mul_le_mul_of_nonneg_left p1 d0
  exact ⟨Int.mul_nonneg d0 p0, by omega⟩
theorem place_t (lo hi p : Int) (h : lo ≤ hi) (p0 : 0 ≤ p) (p1 : p ≤ 255) : 0 ≤ (hi - lo) * p ∧ (hi - lo) * p ≤ (hi - lo) * 255 :=
  ⟨Int.mul_nonneg (by omega) p0, Int.mul_le_mul_of_nonneg_left p1 (by omega)⟩
set_option maxHeartbeats 4000000 in
theorem no (vl vh hl hh rise p q rule E : Int) (w : World) (hw : WordsIs w) (e1 : (E == 0) = false) (e2 : (E != 0) = true)
    (H1 : Hid (∀ W, Below w.heap.size w W → Calls Tryd.prog 16 #[.agg #[.int .i64 vl, .int .i64 vh], .agg #[.int .i64 hl, .int .i64 hh], .int .i64 rise] W fun e w' => e = .returned (.tuple #[.agg #[.int .i64 0, .int .i64 0], .int .i64 E]) ∧ Below W.heap.size W w')) :
    Calls Tryd.prog 7 #[.agg #[.int .i64 vl, .int .i64 vh], .agg #[.int .i64 hl, .int .i64 hh], .int .i64 rise, .agg #[.int .u8 p, .int .u8 q], .int .i64 rule] w fun e w' => e = .returned (.bool true) ∧ Below w.heap.size w w' := by
  have HA : Hid (∀ W, Below w.heap.size w W → _) := fun W h => awake_any W (hw.below h)
  have TV := Lib.hid (((Two.new w (.int .i64 vl) (.int .i64 vh) 29).alloc (.cells #[.int .i64 hl, .int .i64 hh] 29)).alloc (.cells #[.int .u8 p, .int .u8 q] 38))
  have TH := Lib.hid ((Two.new (w.alloc (.cells #[.int .i64 vl, .int .i64 vh] 29)) (.int .i64 hl) (.int .i64 hh) 29).alloc (.cells #[.int .u8 p, .int .u8 q] 38))
  simp only [World.size_alloc] at TH
  have HB := Lib.hid (bel_alloc (bel_alloc (bel_alloc (Below.refl (((w.alloc (.cells #[.int .i64 vl, .int .i64 vh] 29)).alloc (.cells #[.int .i64 hl, .int .i64 hh] 29)).alloc (.cells #[.int .u8 p, .int .u8 q] 38)).heap.size _))))
  have Q1 := fun W => same_bounds 0 0 W
  clear hw
  go_enter Tryd.func7, Tryd.ntmps7
  go_wp2_with fail
  refine (HA.out _ HB.out).mono ?_
  rintro e w2 ⟨rfl, h1⟩
  replace TV := Lib.hid (TV.out.below h1)
  replace TH := Lib.hid (TH.out.below h1)
  replace HB := Lib.hid (bel_trans HB.out h1); clear h1
  obtain ⟨TV0, TV1, _, _, _⟩ := TV.out
  obtain ⟨TH0, TH1, _, _, _⟩ := TH.out
  go_wp2_with fail
  refine (H1.out _ HB.out).mono ?_
  rintro e w4 ⟨rfl, h1⟩
  replace TV := Lib.hid ((TV.out.below h1).alloc (.cells #[.int .i64 0, .int .i64 0] 29))
  replace TH := Lib.hid ((TH.out.below h1).alloc (.cells #[.int .i64 0, .int .i64 0] 29))
  replace HB := Lib.hid ((bel_trans HB.out h1).alloc (bel_trans HB.out h1).size (.cells #[.int .i64 0, .int .i64 0] 29)); clear h1
  have T1 := Lib.hid (Two.new w4 (.int .i64 0) (.int .i64 0) 29)
  obtain ⟨TV0, TV1, _, _, _⟩ := TV.out
  obtain ⟨TH0, TH1, _, _, _⟩ := TH.out
  obtain ⟨T10, T11, _, _, _⟩ := T1.out
  go_wp2
  go_returns
  exact ⟨rfl, HB.out⟩
set_option maxHeartbeats 8000000 in
theorem yes (vl vh hl hh rise p q rule A B C F x t : Int) (w : World) (hw : WordsIs w) (v0 : 0 ≤ vl) (v1 : vl ≤ vh) (v2 : vh ≤ 128849018880000) (t0 : -400 ≤ hl) (t1 : hl ≤ hh) (t2 : hh ≤ 600) (p0 : 0 ≤ p) (p1 : p ≤ 255) (q0 : 0 ≤ q) (q1 : q ≤ 255)
    (x0 : 0 ≤ (vh - vl) / 255 * p) (x1 : (vh - vl) / 255 * p ≤ 128849018880000) (y0 : 0 ≤ (hh - hl) * q) (y1 : (hh - hl) * q ≤ 255000) (hx : vl + (vh - vl) / 255 * p = x) (ht : hl + (hh - hl) * q / 255 = t)
    (k : Hid ((F = 1 ∧ rule < 1) ∨ (F = 1 ∧ 1 ≤ rule ∧ 4 < rule) ∨ (F = 0 ∧ A ≤ C ∧ C ≤ B)))
    (H1 : Hid (∀ W, Below w.heap.size w W → Calls Tryd.prog 16 #[.agg #[.int .i64 vl, .int .i64 vh], .agg #[.int .i64 hl, .int .i64 hh], .int .i64 rise] W fun e w' => e = .returned (.tuple #[.agg #[.int .i64 A, .int .i64 B], .int .i64 0]) ∧ Below W.heap.size W w'))
    (H2 : Hid (∀ W, Below w.heap.size w W → Calls Tryd.prog 14 #[.int .i64 x, .int .i64 rise, .int .i64 t, .int .i64 rule] W fun e w' => e = .returned (.tuple #[.int .i64 C, .int .i64 F]) ∧ Below W.heap.size W w')) :
    Calls Tryd.prog 7 #[.agg #[.int .i64 vl, .int .i64 vh], .agg #[.int .i64 hl, .int .i64 hh], .int .i64 rise, .agg #[.int .u8 p, .int .u8 q], .int .i64 rule] w fun e w' => e = .returned (.bool true) ∧ Below w.heap.size w w' := by
  have HA : Hid (∀ W, Below w.heap.size w W → _) := fun W h => awake_any W (hw.below h)
  have TV := Lib.hid (((Two.new w (.int .i64 vl) (.int .i64 vh) 29).alloc (.cells #[.int .i64 hl, .int .i64 hh] 29)).alloc (.cells #[.int .u8 p, .int .u8 q] 38))
  have TH := Lib.hid ((Two.new (w.alloc (.cells #[.int .i64 vl, .int .i64 vh] 29)) (.int .i64 hl) (.int .i64 hh) 29).alloc (.cells #[.int .u8 p, .int .u8 q] 38))
  have TP := Lib.hid (Two.new ((w.alloc (.cells #[.int .i64 vl, .int .i64 vh] 29)).alloc (.cells #[.int .i64 hl, .int .i64 hh] 29)) (.int .u8 p) (.int .u8 q) 38)
  simp only [World.size_alloc] at TH TP
  have HB := Lib.hid (bel_alloc (bel_alloc (bel_alloc (Below.refl (((w.alloc (.cells #[.int .i64 vl, .int .i64 vh] 29)).alloc (.cells #[.int .i64 hl, .int .i64 hh] 29)).alloc (.cells #[.int .u8 p, .int .u8 q] 38)).heap.size _))))
  clear hw
  go_enter Tryd.func7, Tryd.ntmps7
  go_wp2_with fail
  refine (HA.out _ HB.out).mono ?_
  rintro e w7 ⟨rfl, h1⟩
  replace TV := Lib.hid (TV.out.below h1)
  replace TH := Lib.hid (TH.out.below h1)
  replace TP := Lib.hid (TP.out.below h1)
  replace HB := Lib.hid (bel_trans HB.out h1); clear h1
  obtain ⟨TV0, TV1, _, _, _⟩ := TV.out
  obtain ⟨TH0, TH1, _, _, _⟩ := TH.out
  obtain ⟨TP0, TP1, _, _, _⟩ := TP.out
  go_wp2_with fail
  refine (H1.out _ HB.out).mono ?_
  rintro e w9 ⟨rfl, h1⟩
  replace TV := Lib.hid ((TV.out.below h1).alloc (.cells #[.int .i64 A, .int .i64 B] 29))
  replace TH := Lib.hid ((TH.out.below h1).alloc (.cells #[.int .i64 A, .int .i64 B] 29))
  replace TP := Lib.hid ((TP.out.below h1).alloc (.cells #[.int .i64 A, .int .i64 B] 29))
  replace HB := Lib.hid ((bel_trans HB.out h1).alloc (bel_trans HB.out h1).size (.cells #[.int .i64 A, .int .i64 B] 29)); clear h1
  have T1 := Lib.hid (Two.new w9 (.int .i64 A) (.int .i64 B) 29)
  obtain ⟨TV0, TV1, _, _, _⟩ := TV.out
  obtain ⟨TH0, TH1, _, _, _⟩ := TH.out
  obtain ⟨TP0, TP1, _, _, _⟩ := TP.out
  obtain ⟨T10, T11, _, _, _⟩ := T1.out
  go_wp2_with fail
  refine (H2.out _ HB.out).mono ?_
  rintro e w11 ⟨rfl, h1⟩
  replace TV := Lib.hid (TV.out.below h1)
  replace TH := Lib.hid (TH.out.below h1)
  replace TP := Lib.hid (TP.out.below h1)
  replace T1 := Lib.hid (T1.out.below h1)
  replace HB := Lib.hid (bel_trans HB.out h1); clear h1
  obtain ⟨TV0, TV1, _, _, _⟩ := TV.out
  obtain ⟨TH0, TH1, _, _, _⟩ := TH.out
  obtain ⟨TP0, TP1, _, _, _⟩ := TP.out
  obtain ⟨T10, T11, _, _, _⟩ := T1.out
  rcases k.out with ⟨rfl, k1⟩ | ⟨rfl, k1, k2⟩ | ⟨rfl, k1, k2⟩
  all_goals
    clear k
    go_wp2
    go_returns
    exact ⟨by first | rfl | exact ret_bool (by simp; omega), HB.out⟩
theorem walk (vl vh hl hh rise p q rule : Int) (w : World) (w0 : -9223372036854775808 ≤ vl ∧ vl ≤ 9223372036854775807) (w1 : -9223372036854775808 ≤ vh ∧ vh ≤ 9223372036854775807) (w2 : -9223372036854775808 ≤ hl ∧ hl ≤ 9223372036854775807) (w3 : -9223372036854775808 ≤ hh ∧ hh ≤ 9223372036854775807) (w4 : -9223372036854775808 ≤ rise ∧ rise ≤ 9223372036854775807) (hp : 0 ≤ p ∧ p ≤ 255) (hq : 0 ≤ q ∧ q ≤ 255) (w5 : -9223372036854775808 ≤ rule ∧ rule ≤ 9223372036854775807) (hw : WordsIs w) :
    Calls Tryd.prog 7 #[.agg #[.int .i64 vl, .int .i64 vh], .agg #[.int .i64 hl, .int .i64 hh], .int .i64 rise, .agg #[.int .u8 p, .int .u8 q], .int .i64 rule] w fun e w' => e = .returned (.bool true) ∧ Below w.heap.size w w' := by
  have H1 := fun W (h : Below w.heap.size w W) => thBetween_any vl vh hl hh rise W (hw.below h)
  by_cases e : btE vl vh hl hh rise = 0
  · obtain ⟨v1, t1, z1, z2, _, _⟩ := bt_zero e
    obtain ⟨a1, _⟩ := to_zero z1
    obtain ⟨b1, _⟩ := to_zero z2
    obtain ⟨_, f1, u1⟩ := rdy_ok a1
    obtain ⟨_, f2, u2⟩ := rdy_ok b1
    have g1 := (facB_iff _ _).1 f1
    have g2 := (facB_iff _ _).1 f2
    obtain ⟨x0, x1⟩ := place_v vl vh p v1 hp.1 hp.2
    obtain ⟨y0, y1⟩ := place_t hl hh q t1 hq.1 hq.2
    rw [e] at H1
    refine yes vl vh hl hh rise p q rule _ _ _ _ _ _ w hw u1.1 v1 u2.2 (by omega) t1 (by omega) hp.1 hp.2 hq.1 hq.2 x0 (by omega) y0 (by omega) rfl rfl ?_ H1 (fun W h => thTo_any _ rise _ rule W (hw.below h))
    show _ ∨ _
    by_cases hr : 1 ≤ rule ∧ rule ≤ 4
    · right; right
      exact th_within vl vh hl hh rise _ _ rule e hr (by omega) (by omega) (by omega) (by omega)
    · have hb : isRuleB rule = false := by
        rw [Bool.eq_false_iff]; intro hc; exact hr ((isRuleB_iff rule).1 hc)
      have hf : ∀ a b, toE a rise b rule = 1 := fun a b => by
        have hd : rdyE a rise b rule = 1 := by unfold rdyE; rw [if_neg (by rw [hb]; simp)]
        unfold toE; rw [hd, if_neg (by omega)]
      by_cases h1 : rule < 1
      · left; exact ⟨hf _ _, h1⟩
      · right; left; exact ⟨hf _ _, by omega, by omega⟩
  · have e1 : btL vl vh hl hh rise = 0 := by unfold btL; rw [if_neg e]
    have e2 : btH vl vh hl hh rise = 0 := by unfold btH; rw [if_neg e]
    rw [e1, e2] at H1
    exact no vl vh hl hh rise p q rule _ w hw (by simpa using e) (by simpa using e) H1

set_option maxRecDepth 100000 in
theorem contract (H : Type) (enc : TypeId × Value → H) (W : World) (base : Nat) (args : Array Value) (ds gs : List (DataW H)) (before : List MemPlace)
    (hval : ∀ (j : Nat) t v, Tryd.f7.params[j]? = some t → args[j]? = some v → Value.okWide Tryd.prog W .any base t v)
    (hW : DataW.Whole enc Tryd.prog Tryd.f7.params.toList Rows.thermalContainsSpec.vars false W args.toList ds gs before) (hL : laidMetH Tryd.prog Rows.thermalContainsRow.laid W) :
    Calls Tryd.prog 7 args W fun e W' => ∃ v, e = .returned v ∧ Rows.thermalContainsSpec.post enc Tryd.prog Tryd.f7 false true false false W args v W' := by
  have hW' := hW
  obtain ⟨p, q, hA0, hV, rfl, hfz, hnd⟩ := hW
  have hA : DataW.TrodAll enc Tryd.prog W 0 (fun _ => true) true Tryd.f7.params.toList args.toList ds p := hA0
  rw [Tryd.params7] at hA hval
  obtain ⟨v0, vs0, d0, ds0, p0, q0, hargs, rfl, rfl, h0, r0⟩ := trodAll_cons hA
  obtain ⟨v1, vs1, d1, ds1, p1, q1, rfl, rfl, rfl, h1, r1⟩ := trodAll_cons r0
  obtain ⟨v2, vs2, d2, ds2, p2, q2, rfl, rfl, rfl, h2, r2⟩ := trodAll_cons r1
  obtain ⟨v3, vs3, d3, ds3, p3, q3, rfl, rfl, rfl, h3, r3⟩ := trodAll_cons r2
  obtain ⟨v4, vs4, d4, ds4, p4, q4, rfl, rfl, rfl, h4, r4⟩ := trodAll_cons r3
  obtain ⟨rfl, rfl, rfl⟩ := trodAll_nil r4
  obtain rfl : args = #[v0, v1, v2, v3, v4] := by cases args; simp_all
  obtain ⟨rfl, rfl⟩ := trodVars_none hV
  have k0 := h0
  have lt0 : ∀ x ∈ p0, x.block < W.heap.size := by obtain ⟨m, hm⟩ := k0; exact DataW.trod_lt m _ _ _ hm
  have k1 := h1
  have lt1 : ∀ x ∈ p1, x.block < W.heap.size := by obtain ⟨m, hm⟩ := k1; exact DataW.trod_lt m _ _ _ hm
  have k2 := h2
  have lt2 : ∀ x ∈ p2, x.block < W.heap.size := by obtain ⟨m, hm⟩ := k2; exact DataW.trod_lt m _ _ _ hm
  have k3 := h3
  have lt3 : ∀ x ∈ p3, x.block < W.heap.size := by obtain ⟨m, hm⟩ := k3; exact DataW.trod_lt m _ _ _ hm
  have k4 := h4
  have lt4 : ∀ x ∈ p4, x.block < W.heap.size := by obtain ⟨m, hm⟩ := k4; exact DataW.trod_lt m _ _ _ hm
  obtain ⟨y0, m0, rfl, wy0, wm0⟩ := open_bnd (hval 0 29 v0 rfl rfl) h0
  obtain ⟨y1, m1, rfl, wy1, wm1⟩ := open_bnd (hval 1 29 v1 rfl rfl) h1
  obtain ⟨a2, rfl, rfl, rfl, w2⟩ := open_int Tryd.underlying3 (hval 2 3 v2 rfl rfl) h2
  obtain ⟨z3, l3, rfl, b3⟩ := open_intArr Tryd.underlying38 Tryd.underlying5 (by kernel_rfl) (by kernel_rfl) (hval 3 38 v3 rfl rfl) h3
  obtain ⟨x3_0, x3_1, rfl⟩ := list_two l3
  obtain ⟨a4, rfl, rfl, rfl, w4⟩ := open_int Tryd.underlying3 (hval 4 3 v4 rfl rfl) h4
  clear hA0
  refine (walk y0 m0 y1 m1 a2 x3_0 x3_1 a4 W wy0 wm0 wy1 wm1 (wf_bd w2) (wf_u8 (b3 x3_0 (by simp))) (wf_u8 (b3 x3_1 (by simp))) (wf_bd w4) (words_of hL)).mono fun e W' ⟨he, bel⟩ => ?_
  subst he
  exact ⟨_, rfl, _, _, _, [], _, [], hW', trodAll_mk1 (shut_bool Tryd.underlying4 _), (trodAll_cons_mk (Below.trod laidOut (by kernel_rfl) (of_decide_eq_true (by kernel_rfl)) k0 bel lt0) (trodAll_cons_mk (Below.trod laidOut (by kernel_rfl) (of_decide_eq_true (by kernel_rfl)) k1 bel lt1) (trodAll_cons_mk (Below.trod laidOut (by kernel_rfl) (of_decide_eq_true (by kernel_rfl)) k2 bel lt2) (trodAll_cons_mk (Below.trod laidOut (by kernel_rfl) (of_decide_eq_true (by kernel_rfl)) k3 bel lt3) (trodAll_cons_mk (Below.trod laidOut (by kernel_rfl) (of_decide_eq_true (by kernel_rfl)) k4 bel lt4) trodAll_mk0))))), rfl, bel.frame _, fun h => by cases h⟩

noncomputable def laidWorld (os : Os) : World :=
  { World.holding Tryd.prog os ⟨#[], #[], []⟩ with heap := (World.holding Tryd.prog os ⟨#[], #[], []⟩).heap.modify 0 fun
      | .cells _ t frozen => .cells (wordsL.map str).toArray t frozen
      | o => o }
theorem laid_met (os : Os) : laidMet Tryd.prog Rows.thermalContainsRow.laid ((laidWorld os).forCall (fun _ _ => 0) ⟨#[], #[.agg #[.int .i64 0, .int .i64 0], .agg #[.int .i64 0, .int .i64 0], .int .i64 0, .agg #[.int .u8 0, .int .u8 0], .int .i64 0], []⟩).memory :=
  laidMet_of_run' 8 (by kernel_rfl) (by kernel_rfl)
theorem reads (os : Os) {H : Type} (enc : TypeId × Value → H) : ∃ places, DataW.whole enc Tryd.prog ((laidWorld os).forCall (fun _ _ => 0) ⟨#[], #[.agg #[.int .i64 0, .int .i64 0], .agg #[.int .i64 0, .int .i64 0], .int .i64 0, .agg #[.int .u8 0, .int .u8 0], .int .i64 0], []⟩).memory Tryd.f7.params.toList Rows.thermalContainsSpec.vars false (#[.agg #[.int .i64 0, .int .i64 0], .agg #[.int .i64 0, .int .i64 0], .int .i64 0, .agg #[.int .u8 0, .int .u8 0], .int .i64 0] : Array Value).toList 8 = some ([.agg [.lit (.int .i64 0), .lit (.int .i64 0)], .agg [.lit (.int .i64 0), .lit (.int .i64 0)], .lit (.int .i64 0), .agg [.lit (.int .u8 0), .lit (.int .u8 0)], .lit (.int .i64 0)], [], places) :=
  ⟨[], by kernel_rfl⟩

set_option maxRecDepth 100000 in
theorem lifted (os : Os) (started : os.Started) (H : Type) (enc : TypeId × Value → H) (F : Stop.Interp) :
    ReturnsInHanded {} Tryd.checked os 7 .any ((OpenSpec.ofChange Rows.thermalContainsSpec).preRow enc Tryd.prog Tryd.f7 Rows.thermalContainsRow.domain false Rows.thermalContainsRow.laid) (((OpenSpec.ofChange Rows.thermalContainsSpec).at F).post enc Tryd.prog Tryd.f7 false true false false) := by
  obtain ⟨places, hx⟩ := reads os enc
  refine returnsInHanded_of_row (C := Tryd.checked) (s := OpenSpec.ofChange Rows.thermalContainsSpec) own started (by kernel_rfl) Tryd.func7
    (witness_row_at (enc := enc) (C := Tryd.checked) false (laidWorld os) #[.agg #[.int .i64 0, .int .i64 0], .agg #[.int .i64 0, .int .i64 0], .int .i64 0, .agg #[.int .u8 0, .int .u8 0], .int .i64 0] rfl (by kernel_rfl) (by kernel_rfl) (by kernel_rfl)
      (OpenSpec.preRow_of_cond 8 hx (by kernel_rfl) (fun k hk => by cases hk) (by kernel_rfl) (laid_met os))) ?_
  intro W base args ds gs before hval hW _ _ _ hL _ _
  exact contract H enc W base args ds gs before hval hW hL

theorem said : Rows.ThermalContainsSaid :=
  OpenClaim.holds_of_cond 7 Tryd.f7 rfl rfl rfl rfl rfl rfl rfl ⟨rfl, rfl, rfl, rfl, rfl⟩ rfl rfl rfl rfl rfl (by kernel_rfl) Tryd.func7 (by kernel_rfl)
    (of_decide_eq_true (by kernel_rfl)) (by unfold Func.isWrapper; first | (rw [if_pos (by decide +kernel)]; kernel_rfl) | (rw [if_neg (by decide +kernel)]; exact ⟨rfl, rfl⟩))
    (fun os started H enc _ F => by rw [OpenClaim.pre_eq_preRow]; exact lifted os started H enc F)

theorem plain (f : FuncId) (fn : Func) (hf : Tryd.pinned.checked.prog.funcNamed "spile/spilelaw05.ThermalContains" = some f) (hfn : Tryd.pinned.checked.prog.funcs[f]? = some fn) :
    false = Tryd.pinned.checked.prog.looks [] ∧ ∀ (j : Nat) t, fn.params[j]? = some t → Tryd.pinned.checked.prog.wantsStandIn t = false := by
  obtain rfl : f = 7 := Option.some.inj ((show Tryd.prog.funcNamed "spile/spilelaw05.ThermalContains" = some 7 by kernel_rfl).symm.trans hf) |>.symm
  obtain rfl : fn = Tryd.f7 := (Option.some.inj (Tryd.func7.symm.trans hfn)).symm
  refine ⟨by kernel_rfl, fun j t ht => ?_⟩
  rw [Tryd.params7] at ht
  rcases j with _ | _ | _ | _ | _ | j
  · obtain rfl : t = 29 := by simpa using ht.symm
    exact (show Tryd.prog.wantsStandIn 29 = false by kernel_rfl)
  · obtain rfl : t = 29 := by simpa using ht.symm
    exact (show Tryd.prog.wantsStandIn 29 = false by kernel_rfl)
  · obtain rfl : t = 3 := by simpa using ht.symm
    exact (show Tryd.prog.wantsStandIn 3 = false by kernel_rfl)
  · obtain rfl : t = 38 := by simpa using ht.symm
    exact (show Tryd.prog.wantsStandIn 38 = false by kernel_rfl)
  · obtain rfl : t = 3 := by simpa using ht.symm
    exact (show Tryd.prog.wantsStandIn 3 = false by kernel_rfl)
  · simp at ht

theorem proved : Rows.ThermalContainsCardSaid :=
  Claim7.holds_tied_plain_at .later [] _ _ _ _ said (fun _ h => by cases h) (by kernel_rfl) (fun _ h => by cases h) thermalContains_row_tie rfl ⟨rfl, rfl⟩ (by kernel_rfl) rfl plain (by kernel_rfl)
#print axioms proved
end Go.Proofs.YtigmpbipbkgnfaaDoor.thermalContains
