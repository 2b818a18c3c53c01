/-
  The statement CalendarConverts of spile/spilelaw04 holds: for every input the call returns true, and each argument reads afterwards as it read before. (The listed package variables hold what the program lays: the card ties them.)
-/
import Derived.Test.YtdhckbjebccdbabDoorOpenC
import Derived.Test.YtdhckbjebccdbabDoorCards
import Derived.Test.YtdhckbjebccdbabDoorTie
import Derived.Below
import Derived.Carry
import Derived.Lib.LaidTab
import Derived.Deep.DeepHandedRow
import Derived.SevenTiedPlain
import Derived.Lay
namespace Go.Proofs.YtdhckbjebccdbabDoor.calendarConverts
open Go.ChangeShapes Go.WideShapes Go.ChangeAt Go.RowKit
open Go.ChangeMaps (open_string shut_string)
set_option linter.unusedVariables false

theorem box_at (w W : World) (y m d : Int) (h : Below w.heap.size w W) : BoxAt w W.heap.size (W.alloc (.cells #[.int .i64 y, .int .i64 m, .int .i64 d] 23)) y m d :=
  ⟨by simp [go_sem], by simp [go_sem], by simp [go_sem], bel_trans h (bel_alloc (Below.refl _ _))⟩
theorem box_more {w W : World} {B : Nat} {y m d : Int} (h : BoxAt w B W y m d) (o : Obj) : BoxAt w B (W.alloc o) y m d := h.below (bel_alloc (Below.refl _ _))

set_option maxHeartbeats 4000000 in
theorem core (n Y M D a b c E N F S T : Int) (w : World)
    (HA : Hid (∀ W, Below w.heap.size w W → Calls Tryd.prog 10 #[] W fun e w' => e = .returned (.bool true) ∧ Below W.heap.size W w'))
    (H1 : Hid (∀ W, Below w.heap.size w W → Calls Tryd.prog 11 #[.int .i64 n] W fun e w' => e = .returned (.tuple #[.agg #[.int .i64 a, .int .i64 b, .int .i64 c], .int .i64 E]) ∧ Below W.heap.size W w'))
    (H2 : Hid (∀ W, Below w.heap.size w W → Calls Tryd.prog 12 #[.int .i64 n] W fun e w' => e = .returned (.tuple #[.agg #[.int .i64 a, .int .i64 b, .int .i64 c], .int .i64 E]) ∧ Below W.heap.size W w'))
    (H3 : Hid (∀ W, Below w.heap.size w W → Calls Tryd.prog 13 #[.agg #[.int .i64 Y, .int .i64 M, .int .i64 D]] W fun e w' => e = .returned (.tuple #[.int .i64 N, .int .i64 F]) ∧ Below W.heap.size W w'))
    (H4 : Hid (∀ W, Below w.heap.size w W → Calls Tryd.prog 14 #[.agg #[.int .i64 Y, .int .i64 M, .int .i64 D]] W fun e w' => e = .returned (.tuple #[.int .i64 N, .int .i64 F]) ∧ Below W.heap.size W w'))
    (H5 : Hid (∀ W, Below w.heap.size w W → Calls Tryd.prog 15 #[.int .i64 n] W fun e w' => e = .returned (.tuple #[.int .i64 S, .int .i64 E]) ∧ Below W.heap.size W w'))
    (H6 : Hid (∀ W, Below w.heap.size w W → Calls Tryd.prog 16 #[.int .i64 n] W fun e w' => e = .returned (.tuple #[.int .i64 S, .int .i64 E]) ∧ Below W.heap.size W w'))
    (H7 : Hid (∀ W, Below w.heap.size w W → Calls Tryd.prog 17 #[.int .i64 n] W fun e w' => e = .returned (.tuple #[.int .i64 T, .int .i64 E]) ∧ Below W.heap.size W w'))
    (H8 : Hid (∀ W, Below w.heap.size w W → Calls Tryd.prog 18 #[.int .i64 n] W fun e w' => e = .returned (.tuple #[.int .i64 T, .int .i64 E]) ∧ Below W.heap.size W w')) :
    Calls Tryd.prog 3 #[.int .i64 n, .agg #[.int .i64 Y, .int .i64 M, .int .i64 D]] w fun e w' => e = .returned (.bool true) ∧ Below w.heap.size w w' := by
  have HQ : Hid (∀ W : World, (binOp .eql 23 (.agg #[.int .i64 a, .int .i64 b, .int .i64 c]) (.agg #[.int .i64 a, .int .i64 b, .int .i64 c])).run Tryd.prog W = .ok (.bool true) W) := fun W => by
    rw [run_eql_date]; simp [sameB]
  have X := Lib.hid (box_at w w Y M D (Below.refl _ _))
  go_enter Tryd.func3, Tryd.ntmps3
  go_wp2_with fail
  refine (HA.out _ X.out.2.2.2).mono ?_
  rintro e w1 ⟨rfl, h1⟩
  replace X := Lib.hid (X.out.below h1); clear h1
  go_wp2_with fail
  refine (H1.out _ X.out.2.2.2).mono ?_
  rintro e w2 ⟨rfl, h1⟩
  have Y1 := Lib.hid (box_at w w2 a b c (X.out.below h1).2.2.2)
  replace X := Lib.hid (box_more (X.out.below h1) (.cells #[.int .i64 a, .int .i64 b, .int .i64 c] 23)); clear h1
  go_wp2_with fail
  refine (H2.out _ X.out.2.2.2).mono ?_
  rintro e w3 ⟨rfl, h1⟩
  have Y2 := Lib.hid (box_at w w3 a b c (X.out.below h1).2.2.2)
  replace X := Lib.hid (box_more (X.out.below h1) (.cells #[.int .i64 a, .int .i64 b, .int .i64 c] 23))
  replace Y1 := Lib.hid (box_more (Y1.out.below h1) (.cells #[.int .i64 a, .int .i64 b, .int .i64 c] 23)); clear h1
  have c0 := X.out.1
  have c1 := X.out.2.1
  have c2 := X.out.2.2.1
  go_wp2_with fail
  refine (H3.out _ X.out.2.2.2).mono ?_
  rintro e w4 ⟨rfl, h1⟩
  clear c0 c1 c2
  replace X := Lib.hid (X.out.below h1)
  replace Y1 := Lib.hid (Y1.out.below h1)
  replace Y2 := Lib.hid (Y2.out.below h1); clear h1
  have c0 := X.out.1
  have c1 := X.out.2.1
  have c2 := X.out.2.2.1
  go_wp2_with fail
  refine (H4.out _ X.out.2.2.2).mono ?_
  rintro e w5 ⟨rfl, h1⟩
  clear c0 c1 c2
  replace Y1 := Lib.hid (Y1.out.below h1)
  replace Y2 := Lib.hid (Y2.out.below h1); clear h1 X
  go_wp2_with fail
  refine (H5.out _ Y1.out.2.2.2).mono ?_
  rintro e w6 ⟨rfl, h1⟩
  replace Y1 := Lib.hid (Y1.out.below h1)
  replace Y2 := Lib.hid (Y2.out.below h1); clear h1
  go_wp2_with fail
  refine (H6.out _ Y1.out.2.2.2).mono ?_
  rintro e w7 ⟨rfl, h1⟩
  replace Y1 := Lib.hid (Y1.out.below h1)
  replace Y2 := Lib.hid (Y2.out.below h1); clear h1
  go_wp2_with fail
  refine (H7.out _ Y1.out.2.2.2).mono ?_
  rintro e w8 ⟨rfl, h1⟩
  replace Y1 := Lib.hid (Y1.out.below h1)
  replace Y2 := Lib.hid (Y2.out.below h1); clear h1
  go_wp2_with fail
  refine (H8.out _ Y1.out.2.2.2).mono ?_
  rintro e w9 ⟨rfl, h1⟩
  replace Y1 := Lib.hid (Y1.out.below h1)
  replace Y2 := Lib.hid (Y2.out.below h1); clear h1
  have c0 := Y1.out.1
  have c1 := Y1.out.2.1
  have c2 := Y1.out.2.2.1
  have d0 := Y2.out.1
  have d1 := Y2.out.2.1
  have d2 := Y2.out.2.2.1
  have hq := HQ.out
  go_wp2
  go_ret
  exact ⟨rfl, Y1.out.2.2.2⟩

theorem walk (n Y M D : Int) (w : World) (wn : -9223372036854775808 ≤ n ∧ n ≤ 9223372036854775807) (wY : -9223372036854775808 ≤ Y ∧ Y ≤ 9223372036854775807) (wM : -9223372036854775808 ≤ M ∧ M ≤ 9223372036854775807) (wD : -9223372036854775808 ≤ D ∧ D ≤ 9223372036854775807) (hw : LaidC w) :
    Calls Tryd.prog 3 #[.int .i64 n, .agg #[.int .i64 Y, .int .i64 M, .int .i64 D]] w fun e w' => e = .returned (.bool true) ∧ Below w.heap.size w w' :=
  core n Y M D _ _ _ _ _ _ _ _ w (fun W h => awake_any W (hw.below h)) (fun W h => date_any n W (hw.below h)) (fun W _ => refDate_any n W) (fun W h => day_any Y M D W (hw.below h) wY wD) (fun W _ => refDay_any Y M D W wD.2) (fun W _ => weekday_any n W) (fun W _ => refWeekday_any n W)
    (fun W h => season_any n W (hw.below h)) (fun W _ => refSeason_any n W)

set_option maxRecDepth 100000 in
theorem contract (H : Type) (enc : TypeId × Value → H) (W : World) (base : Nat) (args : Array Value) (ds gs : List (DataW H)) (before : List MemPlace)
    (hval : ∀ (j : Nat) t v, Tryd.f3.params[j]? = some t → args[j]? = some v → Value.okWide Tryd.prog W .any base t v)
    (hW : DataW.Whole enc Tryd.prog Tryd.f3.params.toList Rows.calendarConvertsSpec.vars false W args.toList ds gs before) (hL : laidMetH Tryd.prog Rows.calendarConvertsRow.laid W) (hSh : W.ShapedOpen Tryd.prog) :
    Calls Tryd.prog 3 args W fun e W' => ∃ v, e = .returned v ∧ Rows.calendarConvertsSpec.post enc Tryd.prog Tryd.f3 false true false false W args v W' := by
  have hW' := hW
  obtain ⟨p, q, hA0, hV, rfl, hfz, hnd⟩ := hW
  have hA : DataW.TrodAll enc Tryd.prog W 0 (fun _ => true) true Tryd.f3.params.toList args.toList ds p := hA0
  rw [Tryd.params3] at hA hval
  obtain ⟨v0, vs0, d0, ds0, p0, q0, hargs, rfl, rfl, h0, r0⟩ := trodAll_cons hA
  obtain ⟨v1, vs1, d1, ds1, p1, q1, rfl, rfl, rfl, h1, r1⟩ := trodAll_cons r0
  obtain ⟨rfl, rfl, rfl⟩ := trodAll_nil r1
  obtain rfl : args = #[v0, v1] := by cases args; simp_all
  obtain ⟨rfl, rfl⟩ := trodVars_none hV
  have k0 := h0
  have lt0 : ∀ x ∈ p0, x.block < W.heap.size := by obtain ⟨m, hm⟩ := k0; exact DataW.trod_lt m _ _ _ hm
  have k1 := h1
  have lt1 : ∀ x ∈ p1, x.block < W.heap.size := by obtain ⟨m, hm⟩ := k1; exact DataW.trod_lt m _ _ _ hm
  obtain ⟨a0, rfl, rfl, rfl, w0⟩ := open_int Tryd.underlying3 (hval 0 3 v0 rfl rfl) h0
  obtain ⟨y1, m1, z1, rfl, wy1, wm1, wz1⟩ := open_date (hval 1 23 v1 rfl rfl) h1
  clear hA0
  refine (walk a0 y1 m1 z1 W (wf_bd w0) wy1 wm1 wz1 (laid_of rfl hL)).mono fun e W' ⟨he, bel⟩ => ?_
  subst he
  exact ⟨_, rfl, _, _, _, [], _, [], hW', trodAll_mk1 (shut_bool Tryd.underlying4 _), (trodAll_cons_mk (Below.trod laidOut (by kernel_rfl) (of_decide_eq_true (by kernel_rfl)) k0 bel lt0) (trodAll_cons_mk (Below.trod laidOut (by kernel_rfl) (of_decide_eq_true (by kernel_rfl)) k1 bel lt1) trodAll_mk0)), rfl, bel.frame _, fun h => by cases h⟩

noncomputable def laidWorld (os : Os) : World := World.laidAll Tryd.prog os Rows.calendarConvertsRow.laid
theorem laid_met (os : Os) : laidMet Tryd.prog Rows.calendarConvertsRow.laid ((laidWorld os).forCall (fun _ _ => 0) ⟨#[], #[.int .i64 0, .agg #[.int .i64 0, .int .i64 0, .int .i64 0]], []⟩).memory :=
  laidMet_laidAll _ (by kernel_rfl) (by kernel_rfl)
theorem reads (os : Os) {H : Type} (enc : TypeId × Value → H) : ∃ places, DataW.whole enc Tryd.prog ((laidWorld os).forCall (fun _ _ => 0) ⟨#[], #[.int .i64 0, .agg #[.int .i64 0, .int .i64 0, .int .i64 0]], []⟩).memory Tryd.f3.params.toList Rows.calendarConvertsSpec.vars false (#[.int .i64 0, .agg #[.int .i64 0, .int .i64 0, .int .i64 0]] : Array Value).toList 8 = some ([.lit (.int .i64 0), .agg [.lit (.int .i64 0), .lit (.int .i64 0), .lit (.int .i64 0)]], [], places) :=
  ⟨[], by kernel_rfl⟩

set_option maxRecDepth 100000 in
theorem lifted (os : Os) (started : os.Started) (H : Type) (enc : TypeId × Value → H) (F : Stop.Interp) :
    ReturnsInHanded {} Tryd.checked os 3 .any ((OpenSpec.ofChange Rows.calendarConvertsSpec).preRow enc Tryd.prog Tryd.f3 Rows.calendarConvertsRow.domain false Rows.calendarConvertsRow.laid) (((OpenSpec.ofChange Rows.calendarConvertsSpec).at F).post enc Tryd.prog Tryd.f3 false true false false) := by
  obtain ⟨places, hx⟩ := reads os enc
  refine returnsInHanded_of_row (C := Tryd.checked) (s := OpenSpec.ofChange Rows.calendarConvertsSpec) own started (by kernel_rfl) Tryd.func3
    (witness_row_at (enc := enc) (C := Tryd.checked) false (laidWorld os) #[.int .i64 0, .agg #[.int .i64 0, .int .i64 0, .int .i64 0]] (World.laidAll_os _ _ _) (by kernel_rfl) (by kernel_rfl) (by kernel_rfl)
      (OpenSpec.preRow_of_cond 8 hx (by kernel_rfl) (fun k hk => by cases hk) (by kernel_rfl) (laid_met os))) ?_
  intro W base args ds gs before hval hW _ _ _ hL hSh _
  exact contract H enc W base args ds gs before hval hW hL hSh

theorem said : Rows.CalendarConvertsSaid :=
  OpenClaim.holds_of_cond 3 Tryd.f3 rfl rfl rfl rfl rfl rfl rfl ⟨rfl, rfl, rfl, rfl, rfl⟩ rfl rfl rfl rfl rfl (by kernel_rfl) Tryd.func3 (by kernel_rfl)
    (of_decide_eq_true (by kernel_rfl)) (by unfold Func.isWrapper; first | (rw [if_pos (by decide +kernel)]; kernel_rfl) | (rw [if_neg (by decide +kernel)]; exact ⟨rfl, rfl⟩))
    (fun os started H enc _ F => by rw [OpenClaim.pre_eq_preRow]; exact lifted os started H enc F)

theorem plain (f : FuncId) (fn : Func) (hf : Tryd.pinned.checked.prog.funcNamed "spile/spilelaw04.CalendarConverts" = some f) (hfn : Tryd.pinned.checked.prog.funcs[f]? = some fn) :
    false = Tryd.pinned.checked.prog.looks [] ∧ ∀ (j : Nat) t, fn.params[j]? = some t → Tryd.pinned.checked.prog.wantsStandIn t = false := by
  obtain rfl : f = 3 := Option.some.inj ((show Tryd.prog.funcNamed "spile/spilelaw04.CalendarConverts" = some 3 by kernel_rfl).symm.trans hf) |>.symm
  obtain rfl : fn = Tryd.f3 := (Option.some.inj (Tryd.func3.symm.trans hfn)).symm
  refine ⟨by kernel_rfl, fun j t ht => ?_⟩
  rw [Tryd.params3] at ht
  rcases j with _ | _ | j
  · obtain rfl : t = 3 := by simpa using ht.symm
    exact (show Tryd.prog.wantsStandIn 3 = false by kernel_rfl)
  · obtain rfl : t = 23 := by simpa using ht.symm
    exact (show Tryd.prog.wantsStandIn 23 = false by kernel_rfl)
  · simp at ht

theorem proved : Rows.CalendarConvertsCardSaid :=
  Claim7.holds_tied_plain_at .later [] _ _ _ _ said (fun _ h => by cases h) (by kernel_rfl) (fun _ h => by cases h) calendarConverts_row_tie rfl ⟨rfl, rfl⟩ (by kernel_rfl) rfl plain (by kernel_rfl)
#print axioms proved
end Go.Proofs.YtdhckbjebccdbabDoor.calendarConverts
