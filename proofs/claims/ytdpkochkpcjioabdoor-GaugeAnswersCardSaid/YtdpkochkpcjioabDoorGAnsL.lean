/-
  The statement GaugeAnswers of spile/spilelaw15 holds: for every input the call returns true, and each argument reads afterwards as it read before. (The listed package variables hold what the program lays: the card ties them.)
-/
import Derived.Test.YtdpkochkpcjioabDoorRXO
import Derived.Test.YtdpkochkpcjioabDoorCards
import Derived.Test.YtdpkochkpcjioabDoorTie
import Derived.Below
import Derived.Carry
import Derived.Lib.LaidTab
import Derived.Deep.DeepHandedRow
import Derived.SevenTiedPlain
import Derived.Lay
namespace Go.Proofs.YtdpkochkpcjioabDoor.gaugeAnswers
open Go.ChangeShapes Go.WideShapes Go.ChangeAt Go.RowKit
open Go.ChangeMaps (open_string shut_string)
set_option linter.unusedVariables false

set_option maxHeartbeats 32000000 in
set_option maxRecDepth 100000 in
theorem core (d p h s vl vh al ah a : Int) (B : Bool) (L H N E : Int) (w : World) (hw : Hid (WordsIs w))
    (hB : (B = false ∧ L = 0 ∧ H = 0 ∧ N = 0 ∧ E = 1) ∨ (B = true ∧ a < 0 ∧ L = 0 ∧ H = 0 ∧ N = 0 ∧ E = 2) ∨ (B = true ∧ ¬ a < 0 ∧ 343597383680000 < a ∧ L = 0 ∧ H = 0 ∧ N = 0 ∧ E = 2) ∨
      (B = true ∧ L = a - ah ∧ H = a - al ∧ E = 0 ∧ ((al ≤ a ∧ a ≤ ah ∧ N = 1) ∨ (¬ al ≤ a ∧ N = 2) ∨ (al ≤ a ∧ ¬ a ≤ ah ∧ N = 2)) ∧ (0 ≤ a ∧ a ≤ 343597383680000) ∧ (0 ≤ al ∧ al ≤ 343597383680000) ∧ 0 ≤ ah ∧ ah ≤ 343597383680000))
    (HD : Hid (∀ W, Calls Tryd.prog 26 #[.agg #[.int .i64 d, .int .i64 p, .int .i64 h, .int .i64 s, .int .i64 vl, .int .i64 vh, .int .i64 al, .int .i64 ah], .int .i64 a] W fun e w' => e = .returned (.tuple #[.agg #[.int .i64 L, .int .i64 H], .int .i64 N, .int .i64 E]) ∧ Below W.heap.size W w'))
    (HR : Hid (∀ W, Calls Tryd.prog 28 #[.agg #[.int .i64 d, .int .i64 p, .int .i64 h, .int .i64 s, .int .i64 vl, .int .i64 vh, .int .i64 al, .int .i64 ah]] W fun e w' => e = .returned (.bool B) ∧ Below W.heap.size W w')) :
    Calls Tryd.prog 8 #[.agg #[.int .i64 d, .int .i64 p, .int .i64 h, .int .i64 s, .int .i64 vl, .int .i64 vh, .int .i64 al, .int .i64 ah], .int .i64 a] w fun e w' => e = .returned (.bool true) ∧ Below w.heap.size w w' := by
  have Q1 : ∀ (p q : Int) W, (binOp .eql 30 (.agg #[.int .i64 p, .int .i64 q]) (.agg #[.int .i64 p, .int .i64 q])).run Tryd.prog W = .ok (.bool true) W := fun p q W => by rw [run_eql_bounds, show samB p q p q = true by simp [samB]]
  have T0 := Lib.hid (Eig.new w (.int .i64 d) (.int .i64 p) (.int .i64 h) (.int .i64 s) (.int .i64 vl) (.int .i64 vh) (.int .i64 al) (.int .i64 ah) 36)
  have HB : Hid (Below w.heap.size w (w.alloc (.cells #[.int .i64 d, .int .i64 p, .int .i64 h, .int .i64 s, .int .i64 vl, .int .i64 vh, .int .i64 al, .int .i64 ah] 36))) := Lib.hid (bel_alloc (Below.refl _ _))
  have HA : Hid (∀ W, Below w.heap.size w W → _) := Lib.hid fun W hW => gawake_any W (hw.out.below hW)
  go_enter Tryd.func8, Tryd.ntmps8
  go_wp2_with fail
  refine (HA.out _ HB.out).mono ?_
  rintro e w1 ⟨rfl, h1⟩
  replace T0 := Lib.hid (T0.out.below h1)
  replace HB := Lib.hid (bel_trans HB.out h1); clear h1
  obtain ⟨c0, c1, c2, c3, c4, c5, c6, c7, _, _⟩ := T0.out
  go_wp2_with fail
  refine (HD.out _).mono ?_
  rintro e w2 ⟨rfl, h1⟩
  replace T0 := Lib.hid (T0.out.below h1)
  replace HB := Lib.hid (bel_trans HB.out h1); clear h1 c0 c1 c2 c3 c4 c5 c6 c7
  have D0 := Lib.hid (Two.new w2 (.int .i64 L) (.int .i64 H) 30)
  replace T0 := Lib.hid (T0.out.alloc (.cells #[.int .i64 L, .int .i64 H] 30))
  replace HB := Lib.hid (bel_trans HB.out (bel_alloc (o := .cells #[.int .i64 L, .int .i64 H] 30) (Below.refl _ _)))
  obtain ⟨c0, c1, c2, c3, c4, c5, c6, c7, _, _⟩ := T0.out
  obtain ⟨d0, d1, _, _, _⟩ := D0.out
  rcases hB with ⟨rfl, rfl, rfl, rfl, rfl⟩ | ⟨rfl, ha, rfl, rfl, rfl, rfl⟩ | ⟨rfl, ha, ha2, rfl, rfl, rfl, rfl⟩ | ⟨rfl, rfl, rfl, rfl, hN, ba, bl, bh⟩
  · go_wp2_with fail
    refine (HR.out _).mono ?_
    rintro e w3 ⟨rfl, h1⟩
    replace HB := Lib.hid (bel_trans HB.out h1); clear h1
    go_wp2
    go_returns
    exact ⟨rfl, HB.out⟩
  · go_wp2_with fail
    refine (HR.out _).mono ?_
    rintro e w3 ⟨rfl, h1⟩
    replace HB := Lib.hid (bel_trans HB.out h1); clear h1
    go_wp2
    go_returns
    exact ⟨rfl, HB.out⟩
  · go_wp2_with fail
    refine (HR.out _).mono ?_
    rintro e w3 ⟨rfl, h1⟩
    replace HB := Lib.hid (bel_trans HB.out h1); clear h1
    go_wp2
    go_returns
    exact ⟨rfl, HB.out⟩
  · have k1 : IntKind.i64.wrap (a - al - (a - ah)) = ah - al := by rw [wrap_in _ ⟨by omega, by omega⟩]; omega
    have k2 : IntKind.i64.wrap (ah - al) = ah - al := wrap_in _ ⟨by omega, by omega⟩
    have k3 : IntKind.i64.wrap (a - ah + ah) = a := by rw [wrap_in _ ⟨by omega, by omega⟩]; omega
    go_wp2_with fail
    refine (HR.out _).mono ?_
    rintro e w3 ⟨rfl, h1⟩
    replace T0 := Lib.hid (T0.out.below h1)
    replace D0 := Lib.hid (D0.out.below h1)
    replace HB := Lib.hid (bel_trans HB.out h1); clear h1 c0 c1 c2 c3 c4 c5 c6 c7 d0 d1
    obtain ⟨c0, c1, c2, c3, c4, c5, c6, c7, _, _⟩ := T0.out
    obtain ⟨d0, d1, _, _, _⟩ := D0.out
    rcases hN with ⟨n1, n2, rfl⟩ | ⟨n1, rfl⟩ | ⟨n1, n2, rfl⟩
    · go_wp2
      go_returns
      exact ⟨rfl, HB.out⟩
    · go_wp2
      go_wp2
      go_returns
      exact ⟨rfl, HB.out⟩
    · have n3 : a > ah := by omega
      go_wp2
      go_returns
      refine ⟨?_, HB.out⟩
      simp [go_sem]
      omega
theorem walk (r : Rp) (a : Int) (w : World) (hr : RpBd r) (ha : -9223372036854775808 ≤ a ∧ a ≤ 9223372036854775807) (hw : WordsIs w) :
    Calls Tryd.prog 8 #[rpV r, .int .i64 a] w fun e w' => e = .returned (.bool true) ∧ Below w.heap.size w w' := by
  refine core r.dy r.dp r.ht r.st r.vl r.vh r.al r.ah a (rgtB r) _ _ _ _ w (Lib.hid hw) ?_ (Lib.hid fun W => gDiff_any r a W) (Lib.hid fun W => gRight_any r W)
  cases h : rgtB r with
  | false =>
    left
    have e : dfE r a = 1 := by unfold dfE; rw [if_pos h]
    exact ⟨rfl, by unfold dfL; rw [e]; rfl, by unfold dfH; rw [e]; rfl, by unfold dfN; rw [e]; rfl, e⟩
  | true =>
    right
    by_cases g : a < 0 ∨ 343597383680000 < a
    · have e : dfE r a = 2 := by unfold dfE; rw [if_neg (by rw [h]; simp), if_pos g]
      have f : dfL r a = 0 ∧ dfH r a = 0 ∧ dfN r a = 0 ∧ dfE r a = 2 := ⟨by unfold dfL; rw [e]; rfl, by unfold dfH; rw [e]; rfl, by unfold dfN; rw [e]; rfl, e⟩
      by_cases g1 : a < 0
      · exact .inl ⟨rfl, g1, f⟩
      · exact .inr (.inl ⟨rfl, g1, by omega, f⟩)
    · right; right
      have e : dfE r a = 0 := by unfold dfE; rw [if_neg (by rw [h]; simp), if_neg g]
      have e1 : dfL r a = a - r.ah := by unfold dfL; rw [if_pos e]
      have e2 : dfH r a = a - r.al := by unfold dfH; rw [if_pos e]
      have e3 : dfN r a = if a - r.ah ≤ 0 ∧ 0 ≤ a - r.al then 1 else 2 := by unfold dfN; rw [if_pos e, e1, e2]
      obtain ⟨b1, b2⟩ := rgt_bd h
      refine ⟨rfl, e1, e2, e, ?_, by omega, b1, b2⟩
      rw [e3]
      by_cases n1 : r.al ≤ a
      · by_cases n2 : a ≤ r.ah
        · exact .inl ⟨n1, n2, if_pos (by omega)⟩
        · exact .inr (.inr ⟨n1, n2, if_neg (by omega)⟩)
      · exact .inr (.inl ⟨n1, if_neg (by omega)⟩)

set_option maxRecDepth 100000 in
theorem contract (H : Type) (enc : TypeId × Value → H) (W : World) (base : Nat) (args : Array Value) (ds gs : List (DataW H)) (before : List MemPlace)
    (hval : ∀ (j : Nat) t v, Tryd.f8.params[j]? = some t → args[j]? = some v → Value.okWide Tryd.prog W .any base t v)
    (hW : DataW.Whole enc Tryd.prog Tryd.f8.params.toList Rows.gaugeAnswersSpec.vars false W args.toList ds gs before) (hL : laidMetH Tryd.prog Rows.gaugeAnswersRow.laid W) (hSh : W.ShapedOpen Tryd.prog) :
    Calls Tryd.prog 8 args W fun e W' => ∃ v, e = .returned v ∧ Rows.gaugeAnswersSpec.post enc Tryd.prog Tryd.f8 false true false false W args v W' := by
  have hW' := hW
  obtain ⟨p, q, hA0, hV, rfl, hfz, hnd⟩ := hW
  have hA : DataW.TrodAll enc Tryd.prog W 0 (fun _ => true) true Tryd.f8.params.toList args.toList ds p := hA0
  rw [Tryd.params8] at hA hval
  obtain ⟨v0, vs0, d0, ds0, p0, q0, hargs, rfl, rfl, h0, r0⟩ := trodAll_cons hA
  obtain ⟨v1, vs1, d1, ds1, p1, q1, rfl, rfl, rfl, h1, r1⟩ := trodAll_cons r0
  obtain ⟨rfl, rfl, rfl⟩ := trodAll_nil r1
  obtain rfl : args = #[v0, v1] := by cases args; simp_all
  obtain ⟨rfl, rfl⟩ := trodVars_none hV
  have k0 := h0
  have lt0 : ∀ x ∈ p0, x.block < W.heap.size := by obtain ⟨m, hm⟩ := k0; exact DataW.trod_lt m _ _ _ hm
  have k1 := h1
  have lt1 : ∀ x ∈ p1, x.block < W.heap.size := by obtain ⟨m, hm⟩ := k1; exact DataW.trod_lt m _ _ _ hm
  obtain ⟨z0, rfl, w0⟩ := open_rpt (hval 0 36 v0 rfl rfl) h0
  obtain ⟨a1, rfl, rfl, rfl, w1⟩ := open_int Tryd.underlying3 (hval 1 3 v1 rfl rfl) h1
  clear hA0
  refine (walk z0 a1 W w0 (wf_bd w1) (laid_of rfl hL hSh)).mono fun e W' ⟨he, bel⟩ => ?_
  subst he
  exact ⟨_, rfl, _, _, _, [], _, [], hW', trodAll_mk1 (shut_bool Tryd.underlying4 _), (trodAll_cons_mk (Below.trod laidOut (by kernel_rfl) (of_decide_eq_true (by kernel_rfl)) k0 bel lt0) (trodAll_cons_mk (Below.trod laidOut (by kernel_rfl) (of_decide_eq_true (by kernel_rfl)) k1 bel lt1) trodAll_mk0)), rfl, bel.frame _, fun h => by cases h⟩

noncomputable def laidWorld (os : Os) : World := World.laidAll Tryd.prog os Rows.gaugeAnswersRow.laid
theorem laid_met (os : Os) : laidMet Tryd.prog Rows.gaugeAnswersRow.laid ((laidWorld os).forCall (fun _ _ => 0) ⟨#[], #[.agg #[.int .i64 0, .int .i64 0, .int .i64 0, .int .i64 0, .int .i64 0, .int .i64 0, .int .i64 0, .int .i64 0], .int .i64 0], []⟩).memory :=
  laidMet_laidAll _ (by kernel_rfl) (by kernel_rfl)
theorem reads (os : Os) {H : Type} (enc : TypeId × Value → H) : ∃ places, DataW.whole enc Tryd.prog ((laidWorld os).forCall (fun _ _ => 0) ⟨#[], #[.agg #[.int .i64 0, .int .i64 0, .int .i64 0, .int .i64 0, .int .i64 0, .int .i64 0, .int .i64 0, .int .i64 0], .int .i64 0], []⟩).memory Tryd.f8.params.toList Rows.gaugeAnswersSpec.vars false (#[.agg #[.int .i64 0, .int .i64 0, .int .i64 0, .int .i64 0, .int .i64 0, .int .i64 0, .int .i64 0, .int .i64 0], .int .i64 0] : Array Value).toList 8 = some ([.agg [.agg [.lit (.int .i64 0), .lit (.int .i64 0), .lit (.int .i64 0), .lit (.int .i64 0)], .agg [.lit (.int .i64 0), .lit (.int .i64 0)], .agg [.lit (.int .i64 0), .lit (.int .i64 0)]], .lit (.int .i64 0)], [], places) :=
  ⟨[], by kernel_rfl⟩

set_option maxRecDepth 100000 in
theorem lifted (os : Os) (started : os.Started) (H : Type) (enc : TypeId × Value → H) (F : Stop.Interp) :
    ReturnsInHanded {} Tryd.checked os 8 .any ((OpenSpec.ofChange Rows.gaugeAnswersSpec).preRow enc Tryd.prog Tryd.f8 Rows.gaugeAnswersRow.domain false Rows.gaugeAnswersRow.laid) (((OpenSpec.ofChange Rows.gaugeAnswersSpec).at F).post enc Tryd.prog Tryd.f8 false true false false) := by
  obtain ⟨places, hx⟩ := reads os enc
  refine returnsInHanded_of_row (C := Tryd.checked) (s := OpenSpec.ofChange Rows.gaugeAnswersSpec) own started (by kernel_rfl) Tryd.func8
    (witness_row_at (enc := enc) (C := Tryd.checked) false (laidWorld os) #[.agg #[.int .i64 0, .int .i64 0, .int .i64 0, .int .i64 0, .int .i64 0, .int .i64 0, .int .i64 0, .int .i64 0], .int .i64 0] (World.laidAll_os _ _ _) (by kernel_rfl) (by kernel_rfl) (by kernel_rfl)
      (OpenSpec.preRow_of_cond 8 hx (by kernel_rfl) (fun k hk => by cases hk) (by kernel_rfl) (laid_met os))) ?_
  intro W base args ds gs before hval hW _ _ _ hL hSh _
  exact contract H enc W base args ds gs before hval hW hL hSh

theorem said : Rows.GaugeAnswersSaid :=
  OpenClaim.holds_of_cond 8 Tryd.f8 rfl rfl rfl rfl rfl rfl rfl ⟨rfl, rfl, rfl, rfl, rfl⟩ rfl rfl rfl rfl rfl (by kernel_rfl) Tryd.func8 (by kernel_rfl)
    (of_decide_eq_true (by kernel_rfl)) (by unfold Func.isWrapper; first | (rw [if_pos (by decide +kernel)]; kernel_rfl) | (rw [if_neg (by decide +kernel)]; exact ⟨rfl, rfl⟩))
    (fun os started H enc _ F => by rw [OpenClaim.pre_eq_preRow]; exact lifted os started H enc F)

theorem plain (f : FuncId) (fn : Func) (hf : Tryd.pinned.checked.prog.funcNamed "spile/spilelaw15.GaugeAnswers" = some f) (hfn : Tryd.pinned.checked.prog.funcs[f]? = some fn) :
    false = Tryd.pinned.checked.prog.looks [] ∧ ∀ (j : Nat) t, fn.params[j]? = some t → Tryd.pinned.checked.prog.wantsStandIn t = false := by
  obtain rfl : f = 8 := Option.some.inj ((show Tryd.prog.funcNamed "spile/spilelaw15.GaugeAnswers" = some 8 by kernel_rfl).symm.trans hf) |>.symm
  obtain rfl : fn = Tryd.f8 := (Option.some.inj (Tryd.func8.symm.trans hfn)).symm
  refine ⟨by kernel_rfl, fun j t ht => ?_⟩
  rw [Tryd.params8] at ht
  rcases j with _ | _ | j
  · obtain rfl : t = 36 := by simpa using ht.symm
    exact (show Tryd.prog.wantsStandIn 36 = false by kernel_rfl)
  · obtain rfl : t = 3 := by simpa using ht.symm
    exact (show Tryd.prog.wantsStandIn 3 = false by kernel_rfl)
  · simp at ht

theorem proved : Rows.GaugeAnswersCardSaid :=
  Claim7.holds_tied_plain_at .later [] _ _ _ _ said (fun _ h => by cases h) (by kernel_rfl) (fun _ h => by cases h) gaugeAnswers_row_tie rfl ⟨rfl, rfl⟩ (by kernel_rfl) rfl plain (by kernel_rfl)
#print axioms proved
end Go.Proofs.YtdpkochkpcjioabDoor.gaugeAnswers

