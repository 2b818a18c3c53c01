/-
  The statement ThermalMeans of spile/spilelaw05 holds: for every input the call returns true, and each argument reads afterwards as it read before. (The listed package variables hold what the program lays: the card ties them.)
-/
import Derived.Test.YtigmpbipbkgnfaaDoorTK
import Derived.Test.YtigmpbipbkgnfaaDoorTO
import Derived.Test.YtigmpbipbkgnfaaDoorCards
import Derived.Test.YtigmpbipbkgnfaaDoorTie
import Derived.Below
import Derived.Carry
import Derived.Lib.LaidTab
import Derived.Deep.DeepHandedRow
import Derived.SevenTiedPlain
namespace Go.Proofs.YtigmpbipbkgnfaaDoor.thermalMeans
open Go.ChangeShapes Go.WideShapes Go.ChangeAt Go.RowKit
open Go.ChangeMaps (open_string shut_string)
set_option linter.unusedVariables false

set_option maxHeartbeats 4000000 in
theorem long (a : Option Addr) (n cap : Nat) (rule : Int) (w : World) (hw : WordsIs w) (h : 65 < n) (h2 : n ≤ 9223372036854775807) :
    Calls Tryd.prog 8 #[.slice a n cap, .int .i64 rule] w fun e w' => e = .returned (.bool true) ∧ Below w.heap.size w w' := by
  have HA : Hid (∀ W, Below w.heap.size w W → _) := fun W h => awake_any W (hw.below h)
  have HB := Lib.hid (Below.refl w.heap.size w)
  clear hw
  go_enter Tryd.func8, Tryd.ntmps8
  go_wp2_with fail
  refine (HA.out _ HB.out).mono ?_
  rintro e w2 ⟨rfl, h1⟩
  replace HB := Lib.hid (bel_trans HB.out h1); clear h1
  go_wp2
  go_returns
  exact ⟨rfl, HB.out⟩
set_option maxHeartbeats 4000000 in
theorem core (a : Option Addr) (n cap : Nat) (zs : List Int) (rule M E lo hi : Int) (w : World) (hw : WordsIs w) (hn : n ≤ 65)
    (hE : Hid (((E == 0) = false ∧ (E != 0) = true ∧ M = 0) ∨ (E = 0 ∧ 0 < n ∧ lo ≤ M ∧ M ≤ hi)))
    (H1 : Hid (∀ W, Below w.heap.size w W → Calls Tryd.prog 19 #[.slice a n cap] W fun e w' => ∃ u, e = .returned u ∧ w'.ownsRow W.heap.size 3 1 u zs.length (zs.map (Value.int .i64)) ∧ Below W.heap.size W w'))
    (H2 : Hid (∀ u W, Below w.heap.size w W → Nums W u zs → Calls Tryd.prog 18 #[u, .int .i64 rule] W fun e w' => e = .returned (.tuple #[.int .i64 M, .int .i64 E]) ∧ Below W.heap.size W w'))
    (H3 : Hid (∀ B u W, W.ownsRow B 3 1 u zs.length (zs.map (Value.int .i64)) → Calls Tryd.prog 21 #[u] W fun e w' => e = .returned (.tuple #[]) ∧ Nums w' u zs.reverse ∧ Below B W w'))
    (H4 : Hid (∀ u W, Below w.heap.size w W → Nums W u zs.reverse → Calls Tryd.prog 18 #[u, .int .i64 rule] W fun e w' => e = .returned (.tuple #[.int .i64 M, .int .i64 E]) ∧ Below W.heap.size W w'))
    (H5 : Hid (0 < n → ∀ W, Below w.heap.size w W → Calls Tryd.prog 22 #[.slice a n cap] W fun e w' => e = .returned (.int .i64 lo) ∧ W = w'))
    (H6 : Hid (0 < n → ∀ W, Below w.heap.size w W → Calls Tryd.prog 23 #[.slice a n cap] W fun e w' => e = .returned (.int .i64 hi) ∧ W = w')) :
    Calls Tryd.prog 8 #[.slice a n cap, .int .i64 rule] w fun e w' => e = .returned (.bool true) ∧ Below w.heap.size w w' := by
  have HA : Hid (∀ W, Below w.heap.size w W → _) := fun W h => awake_any W (hw.below h)
  have HB := Lib.hid (Below.refl w.heap.size w)
  clear hw
  go_enter Tryd.func8, Tryd.ntmps8
  go_wp2_with fail
  refine (HA.out _ HB.out).mono ?_
  rintro e w4 ⟨rfl, h1⟩
  replace HB := Lib.hid (bel_trans HB.out h1); clear h1
  go_wp2_with fail
  refine (H1.out _ HB.out).mono ?_
  rintro e w21 ⟨u, rfl, hu, h1⟩
  replace HB := Lib.hid (bel_trans HB.out h1); clear h1
  have HU := Lib.hid (nums_of_row hu); clear hu
  go_wp2_with fail
  refine (H2.out _ _ HB.out HU.out).mono ?_
  rintro e w22 ⟨rfl, h1⟩
  replace HB := Lib.hid (bel_trans HB.out h1); clear h1 HU
  go_wp2_with fail
  refine (H1.out _ HB.out).mono ?_
  rintro e w23 ⟨x, rfl, hu, h1⟩
  have HZ := Lib.hid HB.out.size
  replace HB := Lib.hid (bel_trans HB.out h1); clear h1
  have HU := Lib.hid hu; clear hu
  go_wp2_with fail
  refine (H3.out _ _ _ HU.out).mono ?_
  rintro e w24 ⟨rfl, hx, h1⟩
  replace HB := Lib.hid (HB.out.trans (h1.mono HZ.out)); clear h1 HZ HU
  have HX := Lib.hid hx; clear hx
  go_wp2_with fail
  refine (H4.out _ _ HB.out HX.out).mono ?_
  rintro e w25 ⟨rfl, h1⟩
  replace HB := Lib.hid (bel_trans HB.out h1); clear h1 HX
  rcases hE.out with ⟨e1, e2, rfl⟩ | ⟨rfl, e1, e2, e3⟩
  · go_wp2
    go_returns
    exact ⟨rfl, HB.out⟩
  · replace H5 := Lib.hid (H5.out e1)
    replace H6 := Lib.hid (H6.out e1)
    go_wp2_with fail
    refine (H5.out _ HB.out).mono ?_
    rintro e w26 ⟨rfl, rfl⟩
    go_wp2_with fail
    refine (H6.out _ HB.out).mono ?_
    rintro e w27 ⟨rfl, rfl⟩
    go_wp2
    go_returns
    exact ⟨rfl, HB.out⟩
theorem walk (v : Value) (zs : List Int) (rule : Int) (w : World) (hv : Nums w v zs) (hz : ∀ z ∈ zs, (Lit.int .i64 z).wf = true) (w5 : -9223372036854775808 ≤ rule ∧ rule ≤ 9223372036854775807) (hw : WordsIs w) :
    Calls Tryd.prog 8 #[v, .int .i64 rule] w fun e w' => e = .returned (.bool true) ∧ Below w.heap.size w w' := by
  have hv2 := hv
  obtain ⟨a, cap, rfl, ⟨l1, l2⟩, _⟩ := hv
  by_cases h : 65 < zs.length
  · exact long a zs.length cap rule w hw h (by omega)
  · refine core a zs.length cap zs rule (meQ zs rule) (meE zs rule) (Lib.minOf zs) (Lib.maxOf zs) w hw (by omega) ?_ (fun W h => clone_own _ zs W (hv2.below h) (by omega)) (fun u W h hu => thMean_any u zs rule W (hw.below h) hu) (fun B u W hu => rev_own B u zs W hu (by omega)) (fun u W h hu => ?_) (fun h0 W h => min_any _ zs W (hv2.below h) h0) (fun h0 W h => max_any _ zs W (hv2.below h) h0)
    · show _ ∨ _
      by_cases e : meE zs rule = 0
      · right
        have := me_minmax e
        obtain ⟨_, n1, _⟩ := me_zero e
        exact ⟨e, by omega, this.1, this.2⟩
      · left
        exact ⟨by simpa using e, by simpa using e, by unfold meQ; rw [if_neg e]⟩
    · have := thMean_any u zs.reverse rule W (hw.below h) hu
      rw [(me_reverse zs rule).1, (me_reverse zs rule).2] at this
      exact this

set_option maxRecDepth 100000 in
theorem contract (H : Type) (enc : TypeId × Value → H) (W : World) (base : Nat) (args : Array Value) (ds gs : List (DataW H)) (before : List MemPlace)
    (hval : ∀ (j : Nat) t v, Tryd.f8.params[j]? = some t → args[j]? = some v → Value.okWide Tryd.prog W .any base t v)
    (hW : DataW.Whole enc Tryd.prog Tryd.f8.params.toList Rows.thermalMeansSpec.vars false W args.toList ds gs before) (hL : laidMetH Tryd.prog Rows.thermalMeansRow.laid W) :
    Calls Tryd.prog 8 args W fun e W' => ∃ v, e = .returned v ∧ Rows.thermalMeansSpec.post enc Tryd.prog Tryd.f8 false true false false W args v W' := by
  have hW' := hW
  obtain ⟨p, q, hA0, hV, rfl, hfz, hnd⟩ := hW
  have hA : DataW.TrodAll enc Tryd.prog W 0 (fun _ => true) true Tryd.f8.params.toList args.toList ds p := hA0
  rw [Tryd.params8] at hA hval
  obtain ⟨v0, vs0, d0, ds0, p0, q0, hargs, rfl, rfl, h0, r0⟩ := trodAll_cons hA
  obtain ⟨v1, vs1, d1, ds1, p1, q1, rfl, rfl, rfl, h1, r1⟩ := trodAll_cons r0
  obtain ⟨rfl, rfl, rfl⟩ := trodAll_nil r1
  obtain rfl : args = #[v0, v1] := by cases args; simp_all
  obtain ⟨rfl, rfl⟩ := trodVars_none hV
  have k0 := h0
  have lt0 : ∀ x ∈ p0, x.block < W.heap.size := by obtain ⟨m, hm⟩ := k0; exact DataW.trod_lt m _ _ _ hm
  have k1 := h1
  have lt1 : ∀ x ∈ p1, x.block < W.heap.size := by obtain ⟨m, hm⟩ := k1; exact DataW.trod_lt m _ _ _ hm
  obtain ⟨z0, w0, b0⟩ := open_intSlice Tryd.underlying30 Tryd.underlying3 (by kernel_rfl) (hval 0 30 v0 rfl rfl) h0
  obtain ⟨a1, rfl, rfl, rfl, w1⟩ := open_int Tryd.underlying3 (hval 1 3 v1 rfl rfl) h1
  clear hA0
  refine (walk v0 z0 a1 W w0 b0 (wf_bd w1) (words_of hL)).mono fun e W' ⟨he, bel⟩ => ?_
  subst he
  exact ⟨_, rfl, _, _, _, [], _, [], hW', trodAll_mk1 (shut_bool Tryd.underlying4 _), (trodAll_cons_mk (Below.trod laidOut (by kernel_rfl) (of_decide_eq_true (by kernel_rfl)) k0 bel lt0) (trodAll_cons_mk (Below.trod laidOut (by kernel_rfl) (of_decide_eq_true (by kernel_rfl)) k1 bel lt1) trodAll_mk0)), rfl, bel.frame _, fun h => by cases h⟩

noncomputable def laidWorld (os : Os) : World :=
  { World.holding Tryd.prog os ⟨#[], #[], []⟩ with heap := (World.holding Tryd.prog os ⟨#[], #[], []⟩).heap.modify 0 fun
      | .cells _ t frozen => .cells (wordsL.map str).toArray t frozen
      | o => o }
theorem laid_met (os : Os) : laidMet Tryd.prog Rows.thermalMeansRow.laid ((laidWorld os).forCall (fun _ _ => 0) ⟨#[], #[.slice none 0 0, .int .i64 0], []⟩).memory :=
  laidMet_of_run' 8 (by kernel_rfl) (by kernel_rfl)
theorem reads (os : Os) {H : Type} (enc : TypeId × Value → H) : ∃ places, DataW.whole enc Tryd.prog ((laidWorld os).forCall (fun _ _ => 0) ⟨#[], #[.slice none 0 0, .int .i64 0], []⟩).memory Tryd.f8.params.toList Rows.thermalMeansSpec.vars false (#[.slice none 0 0, .int .i64 0] : Array Value).toList 8 = some ([.nil, .lit (.int .i64 0)], [], places) :=
  ⟨[], by kernel_rfl⟩

set_option maxRecDepth 100000 in
theorem lifted (os : Os) (started : os.Started) (H : Type) (enc : TypeId × Value → H) (F : Stop.Interp) :
    ReturnsInHanded {} Tryd.checked os 8 .any ((OpenSpec.ofChange Rows.thermalMeansSpec).preRow enc Tryd.prog Tryd.f8 Rows.thermalMeansRow.domain false Rows.thermalMeansRow.laid) (((OpenSpec.ofChange Rows.thermalMeansSpec).at F).post enc Tryd.prog Tryd.f8 false true false false) := by
  obtain ⟨places, hx⟩ := reads os enc
  refine returnsInHanded_of_row (C := Tryd.checked) (s := OpenSpec.ofChange Rows.thermalMeansSpec) own started (by kernel_rfl) Tryd.func8
    (witness_row_at (enc := enc) (C := Tryd.checked) false (laidWorld os) #[.slice none 0 0, .int .i64 0] rfl (by kernel_rfl) (by kernel_rfl) (by kernel_rfl)
      (OpenSpec.preRow_of_cond 8 hx (by kernel_rfl) (fun k hk => by cases hk) (by kernel_rfl) (laid_met os))) ?_
  intro W base args ds gs before hval hW _ _ _ hL _ _
  exact contract H enc W base args ds gs before hval hW hL

theorem said : Rows.ThermalMeansSaid :=
  OpenClaim.holds_of_cond 8 Tryd.f8 rfl rfl rfl rfl rfl rfl rfl ⟨rfl, rfl, rfl, rfl, rfl⟩ rfl rfl rfl rfl rfl (by kernel_rfl) Tryd.func8 (by kernel_rfl)
    (of_decide_eq_true (by kernel_rfl)) (by unfold Func.isWrapper; first | (rw [if_pos (by decide +kernel)]; kernel_rfl) | (rw [if_neg (by decide +kernel)]; exact ⟨rfl, rfl⟩))
    (fun os started H enc _ F => by rw [OpenClaim.pre_eq_preRow]; exact lifted os started H enc F)

theorem plain (f : FuncId) (fn : Func) (hf : Tryd.pinned.checked.prog.funcNamed "spile/spilelaw05.ThermalMeans" = some f) (hfn : Tryd.pinned.checked.prog.funcs[f]? = some fn) :
    false = Tryd.pinned.checked.prog.looks [] ∧ ∀ (j : Nat) t, fn.params[j]? = some t → Tryd.pinned.checked.prog.wantsStandIn t = false := by
  obtain rfl : f = 8 := Option.some.inj ((show Tryd.prog.funcNamed "spile/spilelaw05.ThermalMeans" = some 8 by kernel_rfl).symm.trans hf) |>.symm
  obtain rfl : fn = Tryd.f8 := (Option.some.inj (Tryd.func8.symm.trans hfn)).symm
  refine ⟨by kernel_rfl, fun j t ht => ?_⟩
  rw [Tryd.params8] at ht
  rcases j with _ | _ | j
  · obtain rfl : t = 30 := by simpa using ht.symm
    exact (show Tryd.prog.wantsStandIn 30 = false by kernel_rfl)
  · obtain rfl : t = 3 := by simpa using ht.symm
    exact (show Tryd.prog.wantsStandIn 3 = false by kernel_rfl)
  · simp at ht

theorem proved : Rows.ThermalMeansCardSaid :=
  Claim7.holds_tied_plain_at .later [] _ _ _ _ said (fun _ h => by cases h) (by kernel_rfl) (fun _ h => by cases h) thermalMeans_row_tie rfl ⟨rfl, rfl⟩ (by kernel_rfl) rfl plain (by kernel_rfl)
#print axioms proved
end Go.Proofs.YtigmpbipbkgnfaaDoor.thermalMeans
