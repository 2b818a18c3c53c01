/-
  The statement RoundingOrder of spile/spilelaw02 holds: for every input the call returns true, and each argument reads afterwards as it read before. (The listed package variables hold what the program lays: the card ties them.)
-/
import Derived.Test.YtlpngfngdigchaaDoorAwake2
import Derived.Test.YtlpngfngdigchaaDoorMath3
import Derived.Test.YtlpngfngdigchaaDoorOpen
import Derived.Test.YtlpngfngdigchaaDoorCards
import Derived.Test.YtlpngfngdigchaaDoorTie
import Derived.Below
import Derived.Carry
import Derived.Lib.LaidTab
import Derived.Deep.DeepHandedRow
import Derived.SevenTiedPlain
namespace Go.Proofs.YtlpngfngdigchaaDoor.roundingOrder
open Go.ChangeShapes Go.WideShapes Go.ChangeAt Go.RowKit
open Go.ChangeMaps (open_string shut_string)
set_option linter.unusedVariables false

theorem order_skip (a more b rule : Int) (w : World) (hw : WordsIs w) (h : more < 0 ∨ 128849018880000 < more ∨ 128849018880000 < a) :
    Calls Tryd.prog 7 #[.int .i64 a, .int .i64 more, .int .i64 b, .int .i64 rule] w fun e w' => e = .returned (.bool true) ∧ Below w.heap.size w w' := by
  have HA := Lib.hid (awake_any w hw); clear hw
  by_cases h1 : more < 0
  · clear h
    go_enter Tryd.func7, Tryd.ntmps7
    go_wp2_with fail
    refine HA.out.mono ?_
    rintro e w1 ⟨rfl, hb⟩
    have HB := Lib.hid hb; clear hb
    go_wp2
    go_ret
    exact ⟨rfl, HB.out⟩
  by_cases h2 : 128849018880000 < more
  · clear h
    go_enter Tryd.func7, Tryd.ntmps7
    go_wp2_with fail
    refine HA.out.mono ?_
    rintro e w1 ⟨rfl, hb⟩
    have HB := Lib.hid hb; clear hb
    go_wp2
    go_ret
    exact ⟨rfl, HB.out⟩
  have h3 : 128849018880000 < a := by omega
  clear h
  go_enter Tryd.func7, Tryd.ntmps7
  go_wp2_with fail
  refine HA.out.mono ?_
  rintro e w1 ⟨rfl, hb⟩
  have HB := Lib.hid hb; clear hb
  go_wp2
  go_ret
  exact ⟨rfl, HB.out⟩

set_option maxHeartbeats 2000000 in
theorem order_err (a more b rule x y f d g u i r1 r2 r3 r4 : Int) (w : World) (hw : WordsIs w) (hx : (x != 0) = true) (a0 : -9223372036854775808 ≤ a) (a1 : a ≤ 128849018880000) (m0 : 0 ≤ more) (m1 : more ≤ 128849018880000)
    (H1 : Hid (∀ W, Calls Tryd.prog 11 #[.int .i64 a, .int .i64 b, .int .i64 rule] W fun e w' => e = .returned (.tuple #[.int .i64 0, .int .i64 r1, .int .i64 x]) ∧ Below W.heap.size W w'))
    (H2 : Hid (∀ W, Calls Tryd.prog 11 #[.int .i64 (a + more), .int .i64 b, .int .i64 rule] W fun e w' => e = .returned (.tuple #[.int .i64 y, .int .i64 r2, .int .i64 f]) ∧ Below W.heap.size W w'))
    (H3 : Hid (∀ W, Calls Tryd.prog 11 #[.int .i64 a, .int .i64 b, .int .i64 1] W fun e w' => e = .returned (.tuple #[.int .i64 d, .int .i64 r3, .int .i64 g]) ∧ Below W.heap.size W w'))
    (H4 : Hid (∀ W, Calls Tryd.prog 11 #[.int .i64 a, .int .i64 b, .int .i64 2] W fun e w' => e = .returned (.tuple #[.int .i64 u, .int .i64 r4, .int .i64 i]) ∧ Below W.heap.size W w')) :
    Calls Tryd.prog 7 #[.int .i64 a, .int .i64 more, .int .i64 b, .int .i64 rule] w fun e w' => e = .returned (.bool true) ∧ Below w.heap.size w w' := by
  have HA := Lib.hid (awake_any w hw); clear hw
  go_enter Tryd.func7, Tryd.ntmps7
  go_wp2_with fail
  refine HA.out.mono ?_
  rintro e w1 ⟨rfl, hb⟩
  have HB := Lib.hid hb; clear hb
  go_wp2_with fail
  refine (H1.out _).mono ?_
  rintro e w2 ⟨rfl, h1⟩
  replace HB := Lib.hid (bel_trans HB.out h1); clear h1
  go_wp2_with fail
  refine (H2.out _).mono ?_
  rintro e w3 ⟨rfl, h1⟩
  replace HB := Lib.hid (bel_trans HB.out h1); clear h1
  go_wp2_with fail
  refine (H3.out _).mono ?_
  rintro e w4 ⟨rfl, h1⟩
  replace HB := Lib.hid (bel_trans HB.out h1); clear h1
  go_wp2_with fail
  refine (H4.out _).mono ?_
  rintro e w5 ⟨rfl, h1⟩
  replace HB := Lib.hid (bel_trans HB.out h1); clear h1
  go_wp2
  go_ret
  exact ⟨rfl, HB.out⟩

set_option maxHeartbeats 2000000 in
theorem order_ok (a more b rule x y f d u o r1 r2 r3 r4 r5 : Int) (w : World) (hw : WordsIs w) (a0 : -128849018880000 ≤ a) (a1 : a ≤ 128849018880000) (m0 : 0 ≤ more) (m1 : more ≤ 128849018880000)
    (d0 : -128849018880001 ≤ d) (d1 : d ≤ 128849018880001) (u0 : -128849018880001 ≤ u) (u1 : u ≤ 128849018880001) (k1 : d ≤ x) (k2 : x ≤ u) (k3 : u - d ≤ 1) (k4 : o = -d) (k5 : f = 0 → x ≤ y)
    (H1 : Hid (∀ W, Calls Tryd.prog 11 #[.int .i64 a, .int .i64 b, .int .i64 rule] W fun e w' => e = .returned (.tuple #[.int .i64 x, .int .i64 r1, .int .i64 0]) ∧ Below W.heap.size W w'))
    (H2 : Hid (∀ W, Calls Tryd.prog 11 #[.int .i64 (a + more), .int .i64 b, .int .i64 rule] W fun e w' => e = .returned (.tuple #[.int .i64 y, .int .i64 r2, .int .i64 f]) ∧ Below W.heap.size W w'))
    (H3 : Hid (∀ W, Calls Tryd.prog 11 #[.int .i64 a, .int .i64 b, .int .i64 1] W fun e w' => e = .returned (.tuple #[.int .i64 d, .int .i64 r3, .int .i64 0]) ∧ Below W.heap.size W w'))
    (H4 : Hid (∀ W, Calls Tryd.prog 11 #[.int .i64 a, .int .i64 b, .int .i64 2] W fun e w' => e = .returned (.tuple #[.int .i64 u, .int .i64 r4, .int .i64 0]) ∧ Below W.heap.size W w'))
    (H5 : Hid (∀ W, Calls Tryd.prog 11 #[.int .i64 (-a), .int .i64 b, .int .i64 2] W fun e w' => e = .returned (.tuple #[.int .i64 o, .int .i64 r5, .int .i64 0]) ∧ Below W.heap.size W w')) :
    Calls Tryd.prog 7 #[.int .i64 a, .int .i64 more, .int .i64 b, .int .i64 rule] w fun e w' => e = .returned (.bool true) ∧ Below w.heap.size w w' := by
  have HA := Lib.hid (awake_any w hw); clear hw
  have K5 := Lib.hid k5
  clear k5
  go_enter Tryd.func7, Tryd.ntmps7
  go_wp2_with fail
  refine HA.out.mono ?_
  rintro e w1 ⟨rfl, hb⟩
  have HB := Lib.hid hb; clear hb
  go_wp2_with fail
  refine (H1.out _).mono ?_
  rintro e w2 ⟨rfl, h1⟩
  replace HB := Lib.hid (bel_trans HB.out h1); clear h1
  go_wp2_with fail
  refine (H2.out _).mono ?_
  rintro e w3 ⟨rfl, h1⟩
  replace HB := Lib.hid (bel_trans HB.out h1); clear h1
  go_wp2_with fail
  refine (H3.out _).mono ?_
  rintro e w4 ⟨rfl, h1⟩
  replace HB := Lib.hid (bel_trans HB.out h1); clear h1
  go_wp2_with fail
  refine (H4.out _).mono ?_
  rintro e w5 ⟨rfl, h1⟩
  replace HB := Lib.hid (bel_trans HB.out h1); clear h1
  go_wp2_with fail
  refine (H5.out _).mono ?_
  rintro e w6 ⟨rfl, h1⟩
  replace HB := Lib.hid (bel_trans HB.out h1); clear h1
  by_cases hf : f = 0
  · have k5 := K5.out hf
    subst hf
    go_wp2
    all_goals go_ret
    all_goals exact ⟨ret_bool (by first | rfl | (simp; try omega)), HB.out⟩
  · have hf' := bneq hf
    go_wp2
    all_goals go_ret
    all_goals exact ⟨ret_bool (by first | rfl | (simp; try omega)), HB.out⟩

theorem walk (a more b rule : Int) (w : World) (wa : -9223372036854775808 ≤ a ∧ a ≤ 9223372036854775807) (wm : -9223372036854775808 ≤ more ∧ more ≤ 9223372036854775807) (wb : -9223372036854775808 ≤ b ∧ b ≤ 9223372036854775807) (wc : -9223372036854775808 ≤ rule ∧ rule ≤ 9223372036854775807) (hw : WordsIs w) :
    Calls Tryd.prog 7 #[.int .i64 a, .int .i64 more, .int .i64 b, .int .i64 rule] w fun e w' => e = .returned (.bool true) ∧ Below w.heap.size w w' := by
  by_cases hs : more < 0 ∨ 128849018880000 < more ∨ 128849018880000 < a
  · exact order_skip a more b rule w hw hs
  by_cases h : quoE a b rule = 0
  · obtain ⟨hr, a0, a1, b0, b1⟩ := quoE_zero h
    have q := quoQ_rules a b rule h
    have g1 := quoE_rule h 1 (by omega)
    have g2 := quoE_rule h 2 (by omega)
    have d := quo_bd a b 1
    have u := quo_bd a b 2
    exact order_ok a more b rule (quoQ a b rule) (quoQ (a + more) b rule) (quoE (a + more) b rule) (quoQ a b 1) (quoQ a b 2) (quoQ (-a) b 2) _ _ _ _ _ w hw a0 a1 (by omega) (by omega) d.1 d.2.1 u.1 u.2.1 q.1 q.2.1 q.2.2.1 q.2.2.2.1
      (fun e => quoQ_mono a (a + more) b rule (by omega) h e)
      (fun W => by have := quotient_any a b rule W; rwa [h] at this) (fun W => quotient_any _ b rule W) (fun W => by have := quotient_any a b 1 W; rwa [g1] at this) (fun W => by have := quotient_any a b 2 W; rwa [g2] at this)
      (fun W => by have := quotient_any (-a) b 2 W; rwa [q.2.2.2.2] at this)
  · have e1 : quoQ a b rule = 0 := by unfold quoQ; rw [if_neg h]
    exact order_err a more b rule (quoE a b rule) _ _ _ _ _ _ _ _ _ _ w hw (bneq h) wa.1 (by omega) (by omega) (by omega)
      (fun W => by have := quotient_any a b rule W; rwa [e1] at this) (fun W => quotient_any _ b rule W) (fun W => quotient_any a b 1 W) (fun W => quotient_any a b 2 W)

set_option maxRecDepth 100000 in
theorem contract (H : Type) (enc : TypeId × Value → H) (W : World) (base : Nat) (args : Array Value) (ds gs : List (DataW H)) (before : List MemPlace)
    (hval : ∀ (j : Nat) t v, Tryd.f7.params[j]? = some t → args[j]? = some v → Value.okWide Tryd.prog W .any base t v)
    (hW : DataW.Whole enc Tryd.prog Tryd.f7.params.toList Rows.roundingOrderSpec.vars false W args.toList ds gs before) (hL : laidMetH Tryd.prog Rows.roundingOrderRow.laid W) :
    Calls Tryd.prog 7 args W fun e W' => ∃ v, e = .returned v ∧ Rows.roundingOrderSpec.post enc Tryd.prog Tryd.f7 false true false false W args v W' := by
  have hW' := hW
  obtain ⟨p, q, hA0, hV, rfl, hfz, hnd⟩ := hW
  have hA : DataW.TrodAll enc Tryd.prog W 0 (fun _ => true) true Tryd.f7.params.toList args.toList ds p := hA0
  rw [Tryd.params7] at hA hval
  obtain ⟨v0, vs0, d0, ds0, p0, q0, hargs, rfl, rfl, h0, r0⟩ := trodAll_cons hA
  obtain ⟨v1, vs1, d1, ds1, p1, q1, rfl, rfl, rfl, h1, r1⟩ := trodAll_cons r0
  obtain ⟨v2, vs2, d2, ds2, p2, q2, rfl, rfl, rfl, h2, r2⟩ := trodAll_cons r1
  obtain ⟨v3, vs3, d3, ds3, p3, q3, rfl, rfl, rfl, h3, r3⟩ := trodAll_cons r2
  obtain ⟨rfl, rfl, rfl⟩ := trodAll_nil r3
  obtain rfl : args = #[v0, v1, v2, v3] := by cases args; simp_all
  obtain ⟨rfl, rfl⟩ := trodVars_none hV
  have k0 := h0
  have lt0 : ∀ x ∈ p0, x.block < W.heap.size := by obtain ⟨m, hm⟩ := k0; exact DataW.trod_lt m _ _ _ hm
  have k1 := h1
  have lt1 : ∀ x ∈ p1, x.block < W.heap.size := by obtain ⟨m, hm⟩ := k1; exact DataW.trod_lt m _ _ _ hm
  have k2 := h2
  have lt2 : ∀ x ∈ p2, x.block < W.heap.size := by obtain ⟨m, hm⟩ := k2; exact DataW.trod_lt m _ _ _ hm
  have k3 := h3
  have lt3 : ∀ x ∈ p3, x.block < W.heap.size := by obtain ⟨m, hm⟩ := k3; exact DataW.trod_lt m _ _ _ hm
  obtain ⟨a0, rfl, rfl, rfl, w0⟩ := open_int Tryd.underlying3 (hval 0 3 v0 rfl rfl) h0
  obtain ⟨a1, rfl, rfl, rfl, w1⟩ := open_int Tryd.underlying3 (hval 1 3 v1 rfl rfl) h1
  obtain ⟨a2, rfl, rfl, rfl, w2⟩ := open_int Tryd.underlying3 (hval 2 3 v2 rfl rfl) h2
  obtain ⟨a3, rfl, rfl, rfl, w3⟩ := open_int Tryd.underlying3 (hval 3 3 v3 rfl rfl) h3
  clear hA0
  refine (walk a0 a1 a2 a3 W (wf_bd w0) (wf_bd w1) (wf_bd w2) (wf_bd w3) (words_of hL)).mono fun e W' ⟨he, bel⟩ => ?_
  subst he
  exact ⟨_, rfl, _, _, _, [], _, [], hW', trodAll_mk1 (shut_bool Tryd.underlying4 _), (trodAll_cons_mk (Below.trod laidOut (by kernel_rfl) (of_decide_eq_true (by kernel_rfl)) k0 bel lt0) (trodAll_cons_mk (Below.trod laidOut (by kernel_rfl) (of_decide_eq_true (by kernel_rfl)) k1 bel lt1) (trodAll_cons_mk (Below.trod laidOut (by kernel_rfl) (of_decide_eq_true (by kernel_rfl)) k2 bel lt2) (trodAll_cons_mk (Below.trod laidOut (by kernel_rfl) (of_decide_eq_true (by kernel_rfl)) k3 bel lt3) trodAll_mk0)))), rfl, bel.frame _, fun h => by cases h⟩

noncomputable def laidWorld (os : Os) : World :=
  { World.holding Tryd.prog os ⟨#[], #[], []⟩ with heap := (World.holding Tryd.prog os ⟨#[], #[], []⟩).heap.modify 0 fun
      | .cells _ t frozen => .cells (wordsL.map str).toArray t frozen
      | o => o }
theorem laid_met (os : Os) : laidMet Tryd.prog Rows.roundingOrderRow.laid ((laidWorld os).forCall (fun _ _ => 0) ⟨#[], #[.int .i64 0, .int .i64 0, .int .i64 0, .int .i64 0], []⟩).memory :=
  laidMet_of_run' 8 (by kernel_rfl) (by kernel_rfl)
theorem reads (os : Os) {H : Type} (enc : TypeId × Value → H) : ∃ places, DataW.whole enc Tryd.prog ((laidWorld os).forCall (fun _ _ => 0) ⟨#[], #[.int .i64 0, .int .i64 0, .int .i64 0, .int .i64 0], []⟩).memory Tryd.f7.params.toList Rows.roundingOrderSpec.vars false (#[.int .i64 0, .int .i64 0, .int .i64 0, .int .i64 0] : Array Value).toList 8 = some ([.lit (.int .i64 0), .lit (.int .i64 0), .lit (.int .i64 0), .lit (.int .i64 0)], [], places) :=
  ⟨[], by kernel_rfl⟩

set_option maxRecDepth 100000 in
theorem lifted (os : Os) (started : os.Started) (H : Type) (enc : TypeId × Value → H) (F : Stop.Interp) :
    ReturnsInHanded {} Tryd.checked os 7 .any ((OpenSpec.ofChange Rows.roundingOrderSpec).preRow enc Tryd.prog Tryd.f7 Rows.roundingOrderRow.domain false Rows.roundingOrderRow.laid) (((OpenSpec.ofChange Rows.roundingOrderSpec).at F).post enc Tryd.prog Tryd.f7 false true false false) := by
  obtain ⟨places, hx⟩ := reads os enc
  refine returnsInHanded_of_row (C := Tryd.checked) (s := OpenSpec.ofChange Rows.roundingOrderSpec) own started (by kernel_rfl) Tryd.func7
    (witness_row_at (enc := enc) (C := Tryd.checked) false (laidWorld os) #[.int .i64 0, .int .i64 0, .int .i64 0, .int .i64 0] rfl (by kernel_rfl) (by kernel_rfl) (by kernel_rfl)
      (OpenSpec.preRow_of_cond 8 hx (by kernel_rfl) (fun k hk => by cases hk) (by kernel_rfl) (laid_met os))) ?_
  intro W base args ds gs before hval hW _ _ _ hL _ _
  exact contract H enc W base args ds gs before hval hW hL

theorem said : Rows.RoundingOrderSaid :=
  OpenClaim.holds_of_cond 7 Tryd.f7 rfl rfl rfl rfl rfl rfl rfl ⟨rfl, rfl, rfl, rfl, rfl⟩ rfl rfl rfl rfl rfl (by kernel_rfl) Tryd.func7 (by kernel_rfl)
    (of_decide_eq_true (by kernel_rfl)) (by unfold Func.isWrapper; first | (rw [if_pos (by decide +kernel)]; kernel_rfl) | (rw [if_neg (by decide +kernel)]; exact ⟨rfl, rfl⟩))
    (fun os started H enc _ F => by rw [OpenClaim.pre_eq_preRow]; exact lifted os started H enc F)

theorem plain (f : FuncId) (fn : Func) (hf : Tryd.pinned.checked.prog.funcNamed "spile/spilelaw02.RoundingOrder" = some f) (hfn : Tryd.pinned.checked.prog.funcs[f]? = some fn) :
    false = Tryd.pinned.checked.prog.looks [] ∧ ∀ (j : Nat) t, fn.params[j]? = some t → Tryd.pinned.checked.prog.wantsStandIn t = false := by
  obtain rfl : f = 7 := Option.some.inj ((show Tryd.prog.funcNamed "spile/spilelaw02.RoundingOrder" = some 7 by kernel_rfl).symm.trans hf) |>.symm
  obtain rfl : fn = Tryd.f7 := (Option.some.inj (Tryd.func7.symm.trans hfn)).symm
  refine ⟨by kernel_rfl, fun j t ht => ?_⟩
  rw [Tryd.params7] at ht
  rcases j with _ | _ | _ | _ | j
  · obtain rfl : t = 3 := by simpa using ht.symm
    exact (show Tryd.prog.wantsStandIn 3 = false by kernel_rfl)
  · obtain rfl : t = 3 := by simpa using ht.symm
    exact (show Tryd.prog.wantsStandIn 3 = false by kernel_rfl)
  · obtain rfl : t = 3 := by simpa using ht.symm
    exact (show Tryd.prog.wantsStandIn 3 = false by kernel_rfl)
  · obtain rfl : t = 3 := by simpa using ht.symm
    exact (show Tryd.prog.wantsStandIn 3 = false by kernel_rfl)
  · simp at ht

theorem proved : Rows.RoundingOrderCardSaid :=
  Claim7.holds_tied_plain_at .later [] _ _ _ _ said (fun _ h => by cases h) (by kernel_rfl) (fun _ h => by cases h) roundingOrder_row_tie rfl ⟨rfl, rfl⟩ (by kernel_rfl) rfl plain (by kernel_rfl)
#print axioms proved
end Go.Proofs.YtlpngfngdigchaaDoor.roundingOrder
