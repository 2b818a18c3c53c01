/-
  The statement ThermalBounds of spile/spilelaw05 holds: for every input the call returns true, and each argument reads afterwards as it read before. (The listed package variables hold what the program lays: the card ties them.)
-/
import Derived.Test.YtigmpbipbkgnfaaDoorTK
import Derived.Test.YtigmpbipbkgnfaaDoorTRefB
import Derived.Test.YtigmpbipbkgnfaaDoorTRefM
import Derived.Test.YtigmpbipbkgnfaaDoorTO
import Derived.Test.YtigmpbipbkgnfaaDoorCards
import Derived.Test.YtigmpbipbkgnfaaDoorTie
import Derived.Below
import Derived.Carry
import Derived.Lib.LaidTab
import Derived.Deep.DeepHandedRow
import Derived.SevenTiedPlain
namespace Go.Proofs.YtigmpbipbkgnfaaDoor.thermalBounds
open Go.ChangeShapes Go.WideShapes Go.ChangeAt Go.RowKit
open Go.ChangeMaps (open_string shut_string)
set_option linter.unusedVariables false

set_option maxHeartbeats 4000000 in
theorem long (vl vh hl hh rise rule : Int) (a : Option Addr) (n cap : Nat) (w : World) (hw : WordsIs w) (h : 65 < n) (h2 : n ≤ 9223372036854775807) :
    Calls Tryd.prog 4 #[.agg #[.int .i64 vl, .int .i64 vh], .agg #[.int .i64 hl, .int .i64 hh], .int .i64 rise, .slice a n cap, .int .i64 rule] w fun e w' => e = .returned (.bool true) ∧ Below w.heap.size w w' := by
  have HA : Hid (∀ W, Below w.heap.size w W → _) := fun W h => awake_any W (hw.below h)
  have HB := Lib.hid (bel_alloc (bel_alloc (Below.refl ((w.alloc (.cells #[.int .i64 vl, .int .i64 vh] 29)).alloc (.cells #[.int .i64 hl, .int .i64 hh] 29)).heap.size _)))
  clear hw
  go_enter Tryd.func4, Tryd.ntmps4
  go_wp2_with fail
  refine (HA.out _ HB.out).mono ?_
  rintro e w2 ⟨rfl, h1⟩
  replace HB := Lib.hid (bel_trans HB.out h1); clear h1
  go_wp2
  go_returns
  exact ⟨rfl, HB.out⟩
set_option maxHeartbeats 4000000 in
theorem core (vl vh hl hh rise rule A B E M G : Int) (a : Option Addr) (n cap : Nat) (zs : List Int) (w : World) (hw : WordsIs w) (hn : n ≤ 65)
    (H1 : Hid (∀ W, Below w.heap.size w W → Calls Tryd.prog 16 #[.agg #[.int .i64 vl, .int .i64 vh], .agg #[.int .i64 hl, .int .i64 hh], .int .i64 rise] W fun e w' => e = .returned (.tuple #[.agg #[.int .i64 A, .int .i64 B], .int .i64 E]) ∧ Below W.heap.size W w'))
    (H2 : Hid (∀ W, Calls Tryd.prog 17 #[.agg #[.int .i64 vl, .int .i64 vh], .agg #[.int .i64 hl, .int .i64 hh], .int .i64 rise] W fun e w' => e = .returned (.tuple #[.agg #[.int .i64 A, .int .i64 B], .int .i64 E]) ∧ Below W.heap.size W w'))
    (H3 : Hid (∀ W, Below w.heap.size w W → Calls Tryd.prog 19 #[.slice a n cap] W fun e w' => ∃ u, e = .returned u ∧ Nums w' u zs ∧ Below W.heap.size W w'))
    (H4 : Hid (∀ u W, Below w.heap.size w W → Nums W u zs → Calls Tryd.prog 18 #[u, .int .i64 rule] W fun e w' => e = .returned (.tuple #[.int .i64 M, .int .i64 G]) ∧ Below W.heap.size W w'))
    (H5 : Hid (∀ W, Below w.heap.size w W → Calls Tryd.prog 20 #[.slice a n cap, .int .i64 rule] W fun e w' => e = .returned (.tuple #[.int .i64 M, .int .i64 G]) ∧ Below W.heap.size W w')) :
    Calls Tryd.prog 4 #[.agg #[.int .i64 vl, .int .i64 vh], .agg #[.int .i64 hl, .int .i64 hh], .int .i64 rise, .slice a n cap, .int .i64 rule] w fun e w' => e = .returned (.bool true) ∧ Below w.heap.size w w' := by
  have HA : Hid (∀ W, Below w.heap.size w W → _) := fun W h => awake_any W (hw.below h)
  have TV := Lib.hid ((Two.new w (.int .i64 vl) (.int .i64 vh) 29).alloc (.cells #[.int .i64 hl, .int .i64 hh] 29))
  have TH := Lib.hid (Two.new (w.alloc (.cells #[.int .i64 vl, .int .i64 vh] 29)) (.int .i64 hl) (.int .i64 hh) 29)
  simp only [World.size_alloc] at TH
  have HB := Lib.hid (bel_alloc (bel_alloc (Below.refl ((w.alloc (.cells #[.int .i64 vl, .int .i64 vh] 29)).alloc (.cells #[.int .i64 hl, .int .i64 hh] 29)).heap.size _)))
  have Q1 := fun W => same_bounds A B W
  clear hw
  go_enter Tryd.func4, Tryd.ntmps4
  go_wp2_with fail
  refine (HA.out _ HB.out).mono ?_
  rintro e w4 ⟨rfl, h1⟩
  replace TV := Lib.hid (TV.out.below h1)
  replace TH := Lib.hid (TH.out.below h1)
  replace HB := Lib.hid (bel_trans HB.out h1); clear h1
  obtain ⟨TV0, TV1, _, _, _⟩ := TV.out
  obtain ⟨TH0, TH1, _, _, _⟩ := TH.out
  go_wp2_with fail
  refine (H1.out _ HB.out).mono ?_
  rintro e w6 ⟨rfl, h1⟩
  replace TV := Lib.hid ((TV.out.below h1).alloc (.cells #[.int .i64 A, .int .i64 B] 29))
  replace TH := Lib.hid ((TH.out.below h1).alloc (.cells #[.int .i64 A, .int .i64 B] 29))
  replace HB := Lib.hid ((bel_trans HB.out h1).alloc (bel_trans HB.out h1).size (.cells #[.int .i64 A, .int .i64 B] 29)); clear h1
  have T1 := Lib.hid (Two.new w6 (.int .i64 A) (.int .i64 B) 29)
  obtain ⟨TV0, TV1, _, _, _⟩ := TV.out
  obtain ⟨TH0, TH1, _, _, _⟩ := TH.out
  obtain ⟨T10, T11, _, _, _⟩ := T1.out
  go_wp2_with fail
  refine (H2.out _).mono ?_
  rintro e w8 ⟨rfl, h1⟩
  replace TV := Lib.hid ((TV.out.below h1).alloc (.cells #[.int .i64 A, .int .i64 B] 29))
  replace TH := Lib.hid ((TH.out.below h1).alloc (.cells #[.int .i64 A, .int .i64 B] 29))
  replace T1 := Lib.hid ((T1.out.below h1).alloc (.cells #[.int .i64 A, .int .i64 B] 29))
  replace HB := Lib.hid ((bel_trans HB.out h1).alloc (bel_trans HB.out h1).size (.cells #[.int .i64 A, .int .i64 B] 29)); clear h1
  have T2 := Lib.hid (Two.new w8 (.int .i64 A) (.int .i64 B) 29)
  go_wp2_with fail
  refine (H3.out _ HB.out).mono ?_
  rintro e w21 ⟨u, rfl, hu, h1⟩
  replace T1 := Lib.hid (T1.out.below h1)
  replace T2 := Lib.hid (T2.out.below h1)
  replace HB := Lib.hid (bel_trans HB.out h1); clear h1
  have HU := Lib.hid hu; clear hu
  go_wp2_with fail
  refine (H4.out _ _ HB.out HU.out).mono ?_
  rintro e w22 ⟨rfl, h1⟩
  replace T1 := Lib.hid (T1.out.below h1)
  replace T2 := Lib.hid (T2.out.below h1)
  replace HB := Lib.hid (bel_trans HB.out h1); clear h1
  go_wp2_with fail
  refine (H5.out _ HB.out).mono ?_
  rintro e w10 ⟨rfl, h1⟩
  replace T1 := Lib.hid (T1.out.below h1)
  replace T2 := Lib.hid (T2.out.below h1)
  replace HB := Lib.hid (bel_trans HB.out h1); clear h1
  obtain ⟨T10, T11, _, _, _⟩ := T1.out
  obtain ⟨T20, T21, _, _, _⟩ := T2.out
  go_wp2
  go_returns
  exact ⟨rfl, HB.out⟩
theorem walk (vl vh hl hh rise : Int) (v : Value) (zs : List Int) (rule : Int) (w : World) (w0 : -9223372036854775808 ≤ vl ∧ vl ≤ 9223372036854775807) (w1 : -9223372036854775808 ≤ vh ∧ vh ≤ 9223372036854775807) (w2 : -9223372036854775808 ≤ hl ∧ hl ≤ 9223372036854775807) (w3 : -9223372036854775808 ≤ hh ∧ hh ≤ 9223372036854775807) (w4 : -9223372036854775808 ≤ rise ∧ rise ≤ 9223372036854775807) (hv : Nums w v zs) (hz : ∀ z ∈ zs, (Lit.int .i64 z).wf = true) (w5 : -9223372036854775808 ≤ rule ∧ rule ≤ 9223372036854775807) (hw : WordsIs w) :
    Calls Tryd.prog 4 #[.agg #[.int .i64 vl, .int .i64 vh], .agg #[.int .i64 hl, .int .i64 hh], .int .i64 rise, v, .int .i64 rule] w fun e w' => e = .returned (.bool true) ∧ Below w.heap.size w w' := by
  have hv2 := hv
  obtain ⟨a, cap, rfl, ⟨l1, l2⟩, _⟩ := hv
  by_cases h : 65 < zs.length
  · exact long vl vh hl hh rise rule a zs.length cap w hw h (by omega)
  · exact core vl vh hl hh rise rule _ _ _ _ _ a zs.length cap zs w hw (by omega) (fun W h => thBetween_any vl vh hl hh rise W (hw.below h)) (fun W => refBetween_any vl vh hl hh rise W) (fun W h => clone_nums _ zs W (hv2.below h) (by omega)) (fun u W h hu => thMean_any u zs rule W (hw.below h) hu) (fun W h => refMean_any _ zs rule W (hv2.below h))

set_option maxRecDepth 100000 in
theorem contract (H : Type) (enc : TypeId × Value → H) (W : World) (base : Nat) (args : Array Value) (ds gs : List (DataW H)) (before : List MemPlace)
    (hval : ∀ (j : Nat) t v, Tryd.f4.params[j]? = some t → args[j]? = some v → Value.okWide Tryd.prog W .any base t v)
    (hW : DataW.Whole enc Tryd.prog Tryd.f4.params.toList Rows.thermalBoundsSpec.vars false W args.toList ds gs before) (hL : laidMetH Tryd.prog Rows.thermalBoundsRow.laid W) :
    Calls Tryd.prog 4 args W fun e W' => ∃ v, e = .returned v ∧ Rows.thermalBoundsSpec.post enc Tryd.prog Tryd.f4 false true false false W args v W' := by
  have hW' := hW
  obtain ⟨p, q, hA0, hV, rfl, hfz, hnd⟩ := hW
  have hA : DataW.TrodAll enc Tryd.prog W 0 (fun _ => true) true Tryd.f4.params.toList args.toList ds p := hA0
  rw [Tryd.params4] at hA hval
  obtain ⟨v0, vs0, d0, ds0, p0, q0, hargs, rfl, rfl, h0, r0⟩ := trodAll_cons hA
  obtain ⟨v1, vs1, d1, ds1, p1, q1, rfl, rfl, rfl, h1, r1⟩ := trodAll_cons r0
  obtain ⟨v2, vs2, d2, ds2, p2, q2, rfl, rfl, rfl, h2, r2⟩ := trodAll_cons r1
  obtain ⟨v3, vs3, d3, ds3, p3, q3, rfl, rfl, rfl, h3, r3⟩ := trodAll_cons r2
  obtain ⟨v4, vs4, d4, ds4, p4, q4, rfl, rfl, rfl, h4, r4⟩ := trodAll_cons r3
  obtain ⟨rfl, rfl, rfl⟩ := trodAll_nil r4
  obtain rfl : args = #[v0, v1, v2, v3, v4] := by cases args; simp_all
  obtain ⟨rfl, rfl⟩ := trodVars_none hV
  have k0 := h0
  have lt0 : ∀ x ∈ p0, x.block < W.heap.size := by obtain ⟨m, hm⟩ := k0; exact DataW.trod_lt m _ _ _ hm
  have k1 := h1
  have lt1 : ∀ x ∈ p1, x.block < W.heap.size := by obtain ⟨m, hm⟩ := k1; exact DataW.trod_lt m _ _ _ hm
  have k2 := h2
  have lt2 : ∀ x ∈ p2, x.block < W.heap.size := by obtain ⟨m, hm⟩ := k2; exact DataW.trod_lt m _ _ _ hm
  have k3 := h3
  have lt3 : ∀ x ∈ p3, x.block < W.heap.size := by obtain ⟨m, hm⟩ := k3; exact DataW.trod_lt m _ _ _ hm
  have k4 := h4
  have lt4 : ∀ x ∈ p4, x.block < W.heap.size := by obtain ⟨m, hm⟩ := k4; exact DataW.trod_lt m _ _ _ hm
  obtain ⟨y0, m0, rfl, wy0, wm0⟩ := open_bnd (hval 0 29 v0 rfl rfl) h0
  obtain ⟨y1, m1, rfl, wy1, wm1⟩ := open_bnd (hval 1 29 v1 rfl rfl) h1
  obtain ⟨a2, rfl, rfl, rfl, w2⟩ := open_int Tryd.underlying3 (hval 2 3 v2 rfl rfl) h2
  obtain ⟨z3, w3, b3⟩ := open_intSlice Tryd.underlying30 Tryd.underlying3 (by kernel_rfl) (hval 3 30 v3 rfl rfl) h3
  obtain ⟨a4, rfl, rfl, rfl, w4⟩ := open_int Tryd.underlying3 (hval 4 3 v4 rfl rfl) h4
  clear hA0
  refine (walk y0 m0 y1 m1 a2 v3 z3 a4 W wy0 wm0 wy1 wm1 (wf_bd w2) w3 b3 (wf_bd w4) (words_of hL)).mono fun e W' ⟨he, bel⟩ => ?_
  subst he
  exact ⟨_, rfl, _, _, _, [], _, [], hW', trodAll_mk1 (shut_bool Tryd.underlying4 _), (trodAll_cons_mk (Below.trod laidOut (by kernel_rfl) (of_decide_eq_true (by kernel_rfl)) k0 bel lt0) (trodAll_cons_mk (Below.trod laidOut (by kernel_rfl) (of_decide_eq_true (by kernel_rfl)) k1 bel lt1) (trodAll_cons_mk (Below.trod laidOut (by kernel_rfl) (of_decide_eq_true (by kernel_rfl)) k2 bel lt2) (trodAll_cons_mk (Below.trod laidOut (by kernel_rfl) (of_decide_eq_true (by kernel_rfl)) k3 bel lt3) (trodAll_cons_mk (Below.trod laidOut (by kernel_rfl) (of_decide_eq_true (by kernel_rfl)) k4 bel lt4) trodAll_mk0))))), rfl, bel.frame _, fun h => by cases h⟩

noncomputable def laidWorld (os : Os) : World :=
  { World.holding Tryd.prog os ⟨#[], #[], []⟩ with heap := (World.holding Tryd.prog os ⟨#[], #[], []⟩).heap.modify 0 fun
      | .cells _ t frozen => .cells (wordsL.map str).toArray t frozen
      | o => o }
theorem laid_met (os : Os) : laidMet Tryd.prog Rows.thermalBoundsRow.laid ((laidWorld os).forCall (fun _ _ => 0) ⟨#[], #[.agg #[.int .i64 0, .int .i64 0], .agg #[.int .i64 0, .int .i64 0], .int .i64 0, .slice none 0 0, .int .i64 0], []⟩).memory :=
  laidMet_of_run' 8 (by kernel_rfl) (by kernel_rfl)
theorem reads (os : Os) {H : Type} (enc : TypeId × Value → H) : ∃ places, DataW.whole enc Tryd.prog ((laidWorld os).forCall (fun _ _ => 0) ⟨#[], #[.agg #[.int .i64 0, .int .i64 0], .agg #[.int .i64 0, .int .i64 0], .int .i64 0, .slice none 0 0, .int .i64 0], []⟩).memory Tryd.f4.params.toList Rows.thermalBoundsSpec.vars false (#[.agg #[.int .i64 0, .int .i64 0], .agg #[.int .i64 0, .int .i64 0], .int .i64 0, .slice none 0 0, .int .i64 0] : Array Value).toList 8 = some ([.agg [.lit (.int .i64 0), .lit (.int .i64 0)], .agg [.lit (.int .i64 0), .lit (.int .i64 0)], .lit (.int .i64 0), .nil, .lit (.int .i64 0)], [], places) :=
  ⟨[], by kernel_rfl⟩

set_option maxRecDepth 100000 in
theorem lifted (os : Os) (started : os.Started) (H : Type) (enc : TypeId × Value → H) (F : Stop.Interp) :
    ReturnsInHanded {} Tryd.checked os 4 .any ((OpenSpec.ofChange Rows.thermalBoundsSpec).preRow enc Tryd.prog Tryd.f4 Rows.thermalBoundsRow.domain false Rows.thermalBoundsRow.laid) (((OpenSpec.ofChange Rows.thermalBoundsSpec).at F).post enc Tryd.prog Tryd.f4 false true false false) := by
  obtain ⟨places, hx⟩ := reads os enc
  refine returnsInHanded_of_row (C := Tryd.checked) (s := OpenSpec.ofChange Rows.thermalBoundsSpec) own started (by kernel_rfl) Tryd.func4
    (witness_row_at (enc := enc) (C := Tryd.checked) false (laidWorld os) #[.agg #[.int .i64 0, .int .i64 0], .agg #[.int .i64 0, .int .i64 0], .int .i64 0, .slice none 0 0, .int .i64 0] rfl (by kernel_rfl) (by kernel_rfl) (by kernel_rfl)
      (OpenSpec.preRow_of_cond 8 hx (by kernel_rfl) (fun k hk => by cases hk) (by kernel_rfl) (laid_met os))) ?_
  intro W base args ds gs before hval hW _ _ _ hL _ _
  exact contract H enc W base args ds gs before hval hW hL

theorem said : Rows.ThermalBoundsSaid :=
  OpenClaim.holds_of_cond 4 Tryd.f4 rfl rfl rfl rfl rfl rfl rfl ⟨rfl, rfl, rfl, rfl, rfl⟩ rfl rfl rfl rfl rfl (by kernel_rfl) Tryd.func4 (by kernel_rfl)
    (of_decide_eq_true (by kernel_rfl)) (by unfold Func.isWrapper; first | (rw [if_pos (by decide +kernel)]; kernel_rfl) | (rw [if_neg (by decide +kernel)]; exact ⟨rfl, rfl⟩))
    (fun os started H enc _ F => by rw [OpenClaim.pre_eq_preRow]; exact lifted os started H enc F)

theorem plain (f : FuncId) (fn : Func) (hf : Tryd.pinned.checked.prog.funcNamed "spile/spilelaw05.ThermalBounds" = some f) (hfn : Tryd.pinned.checked.prog.funcs[f]? = some fn) :
    false = Tryd.pinned.checked.prog.looks [] ∧ ∀ (j : Nat) t, fn.params[j]? = some t → Tryd.pinned.checked.prog.wantsStandIn t = false := by
  obtain rfl : f = 4 := Option.some.inj ((show Tryd.prog.funcNamed "spile/spilelaw05.ThermalBounds" = some 4 by kernel_rfl).symm.trans hf) |>.symm
  obtain rfl : fn = Tryd.f4 := (Option.some.inj (Tryd.func4.symm.trans hfn)).symm
  refine ⟨by kernel_rfl, fun j t ht => ?_⟩
  rw [Tryd.params4] at ht
  rcases j with _ | _ | _ | _ | _ | j
  · obtain rfl : t = 29 := by simpa using ht.symm
    exact (show Tryd.prog.wantsStandIn 29 = false by kernel_rfl)
  · obtain rfl : t = 29 := by simpa using ht.symm
    exact (show Tryd.prog.wantsStandIn 29 = false by kernel_rfl)
  · obtain rfl : t = 3 := by simpa using ht.symm
    exact (show Tryd.prog.wantsStandIn 3 = false by kernel_rfl)
  · obtain rfl : t = 30 := by simpa using ht.symm
    exact (show Tryd.prog.wantsStandIn 30 = false by kernel_rfl)
  · obtain rfl : t = 3 := by simpa using ht.symm
    exact (show Tryd.prog.wantsStandIn 3 = false by kernel_rfl)
  · simp at ht

theorem proved : Rows.ThermalBoundsCardSaid :=
  Claim7.holds_tied_plain_at .later [] _ _ _ _ said (fun _ h => by cases h) (by kernel_rfl) (fun _ h => by cases h) thermalBounds_row_tie rfl ⟨rfl, rfl⟩ (by kernel_rfl) rfl plain (by kernel_rfl)
#print axioms proved
end Go.Proofs.YtigmpbipbkgnfaaDoor.thermalBounds
