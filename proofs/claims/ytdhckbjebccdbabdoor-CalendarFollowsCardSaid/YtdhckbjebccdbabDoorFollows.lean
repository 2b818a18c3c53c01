/-
  The statement CalendarFollows of spile/spilelaw04 holds: for every input the call returns true, and each argument reads afterwards as it read before. (The listed package variables hold what the program lays: the card ties them.)
-/
import Derived.Test.YtdhckbjebccdbabDoorOpenC
import Derived.Test.YtdhckbjebccdbabDoorCards
import Derived.Test.YtdhckbjebccdbabDoorTie
import Derived.Below
import Derived.Carry
import Derived.Lib.LaidTab
import Derived.Deep.DeepHandedRow
import Derived.SevenTiedPlain
import Derived.Lay
namespace Go.Proofs.YtdhckbjebccdbabDoor.calendarFollows
open Go.ChangeShapes Go.WideShapes Go.ChangeAt Go.RowKit
open Go.ChangeMaps (open_string shut_string)
set_option linter.unusedVariables false

theorem box_at (w W : World) (y m d : Int) (h : Below w.heap.size w W) : BoxAt w W.heap.size (W.alloc (.cells #[.int .i64 y, .int .i64 m, .int .i64 d] 23)) y m d :=
  ⟨by simp [go_sem], by simp [go_sem], by simp [go_sem], bel_trans h (bel_alloc (Below.refl _ _))⟩
theorem box_more {w W : World} {B : Nat} {y m d : Int} (h : BoxAt w B W y m d) (o : Obj) : BoxAt w B (W.alloc o) y m d := h.below (bel_alloc (Below.refl _ _))
theorem eq_as (a b c x y z : Int) (r : Bool) (h : sameB a b c x y z = r) (W : World) : (binOp .eql 23 (.agg #[.int .i64 a, .int .i64 b, .int .i64 c]) (.agg #[.int .i64 x, .int .i64 y, .int .i64 z])).run Tryd.prog W = .ok (.bool r) W := by
  rw [run_eql_date, h]

theorem out (n : Int) (w : World) (wn : -9223372036854775808 ≤ n ∧ n ≤ 9223372036854775807) (h : n < 0 ∨ 100000 < n)
    (HA : Hid (∀ W, Below w.heap.size w W → Calls Tryd.prog 10 #[] W fun e w' => e = .returned (.bool true) ∧ Below W.heap.size W w'))
    (H1 : Hid (∀ W, Below w.heap.size w W → Calls Tryd.prog 11 #[.int .i64 n] W fun e w' => e = .returned (.tuple #[.agg #[.int .i64 0, .int .i64 0, .int .i64 0], .int .i64 2]) ∧ Below W.heap.size W w')) :
    Calls Tryd.prog 6 #[.int .i64 n] w fun e w' => e = .returned (.bool true) ∧ Below w.heap.size w w' := by
  have hq := eq_as 0 0 0 0 0 0 true (by decide)
  have X := Lib.hid (Below.refl w.heap.size w)
  rcases h with h | h
  all_goals
    go_enter Tryd.func6, Tryd.ntmps6
    go_wp2_with fail
    refine (HA.out _ X.out).mono ?_
    rintro e w1 ⟨rfl, h1⟩
    replace X := Lib.hid (bel_trans X.out h1); clear h1
    go_wp2_with fail
    refine (H1.out _ X.out).mono ?_
    rintro e w2 ⟨rfl, h1⟩
    replace X := Lib.hid (bel_trans X.out h1); clear h1
    go_wp2
    go_ret
    refine ⟨ret_bool ?_, bel_trans X.out (bel_alloc (Below.refl _ _))⟩
    first | (simp [h]; done) | (simp; omega)

set_option maxHeartbeats 4000000 in
theorem core (n y m d a b c E : Int) (w : World) (n0 : 0 ≤ n) (n1 : n ≤ 100000) (d0 : 1 ≤ d) (d1 : d ≤ 31) (m0 : 1 ≤ m) (m1 : m ≤ 12) (y0 : 1900 ≤ y) (y1 : y ≤ 3000)
    (HA : Hid (∀ W, Below w.heap.size w W → Calls Tryd.prog 10 #[] W fun e w' => e = .returned (.bool true) ∧ Below W.heap.size W w'))
    (H1 : Hid (∀ W, Below w.heap.size w W → Calls Tryd.prog 11 #[.int .i64 n] W fun e w' => e = .returned (.tuple #[.agg #[.int .i64 y, .int .i64 m, .int .i64 d], .int .i64 0]) ∧ Below W.heap.size W w'))
    (H2 : Hid (∀ W, Below w.heap.size w W → Calls Tryd.prog 13 #[.agg #[.int .i64 y, .int .i64 m, .int .i64 d]] W fun e w' => e = .returned (.tuple #[.int .i64 n, .int .i64 0]) ∧ Below W.heap.size W w'))
    (H3 : Hid (∀ W, Below w.heap.size w W → Calls Tryd.prog 11 #[.int .i64 (n + 1)] W fun e w' => e = .returned (.tuple #[.agg #[.int .i64 a, .int .i64 b, .int .i64 c], .int .i64 E]) ∧ Below W.heap.size W w'))
    (h : (E = 2 ∧ n = 100000) ∨ (E = 0 ∧ a = y ∧ b = m ∧ c = d + 1 ∧ d < 31) ∨ (E = 0 ∧ a = y ∧ b = m + 1 ∧ c = 1 ∧ 28 ≤ d ∧ m < 12) ∨ (E = 0 ∧ a = y + 1 ∧ b = 1 ∧ c = 1 ∧ m = 12 ∧ d = 31)) :
    Calls Tryd.prog 6 #[.int .i64 n] w fun e w' => e = .returned (.bool true) ∧ Below w.heap.size w w' := by
  have hq : Hid ((∀ W : World, (binOp .eql 23 (.agg #[.int .i64 a, .int .i64 b, .int .i64 c]) (.agg #[.int .i64 y, .int .i64 m, .int .i64 (d + 1)])).run Tryd.prog W = .ok (.bool (sameB a b c y m (d + 1))) W) ∧
    (∀ W : World, (binOp .eql 23 (.agg #[.int .i64 a, .int .i64 b, .int .i64 c]) (.agg #[.int .i64 y, .int .i64 (m + 1), .int .i64 1])).run Tryd.prog W = .ok (.bool (sameB a b c y (m + 1) 1)) W) ∧
    (∀ W : World, (binOp .eql 23 (.agg #[.int .i64 a, .int .i64 b, .int .i64 c]) (.agg #[.int .i64 (y + 1), .int .i64 1, .int .i64 1])).run Tryd.prog W = .ok (.bool (sameB a b c (y + 1) 1 1)) W)) :=
    ⟨fun W => run_eql_date _ _ _ _ _ _ W, fun W => run_eql_date _ _ _ _ _ _ W, fun W => run_eql_date _ _ _ _ _ _ W⟩
  have HH := Lib.hid h
  have X := Lib.hid (Below.refl w.heap.size w)
  clear h
  go_enter Tryd.func6, Tryd.ntmps6
  go_wp2_with fail
  refine (HA.out _ X.out).mono ?_
  rintro e w1 ⟨rfl, h1⟩
  replace X := Lib.hid (bel_trans X.out h1); clear h1
  go_wp2_with fail
  refine (H1.out _ X.out).mono ?_
  rintro e w2 ⟨rfl, h1⟩
  have Y1 := Lib.hid (box_at w w2 y m d (bel_trans X.out h1)); clear h1 X
  go_wp2_with fail
  refine (H2.out _ Y1.out.2.2.2).mono ?_
  rintro e w3 ⟨rfl, h1⟩
  replace Y1 := Lib.hid (Y1.out.below h1); clear h1
  go_wp2_with fail
  refine (H3.out _ Y1.out.2.2.2).mono ?_
  rintro e w4 ⟨rfl, h1⟩
  have Y2 := Lib.hid (box_at w w4 a b c (Y1.out.below h1).2.2.2)
  replace Y1 := Lib.hid (box_more (Y1.out.below h1) (.cells #[.int .i64 a, .int .i64 b, .int .i64 c] 23)); clear h1
  have c0 := Y1.out.1
  have c1 := Y1.out.2.1
  have c2 := Y1.out.2.2.1
  have e0 := Y2.out.1
  have e1 := Y2.out.2.1
  have e2 := Y2.out.2.2.1
  rcases HH.out with ⟨rfl, rfl⟩ | ⟨rfl, rfl, rfl, rfl, h1⟩ | ⟨rfl, rfl, rfl, rfl, h1, h2⟩ | ⟨rfl, rfl, rfl, rfl, rfl, rfl⟩
  · clear HH hq
    go_wp2
    go_ret
    exact ⟨rfl, Y1.out.2.2.2⟩
  · have q1 := hq.out.1
    rw [show sameB a b (d + 1) a b (d + 1) = true by simp [sameB]] at q1
    clear HH
    go_wp2
    go_ret
    exact ⟨rfl, Y1.out.2.2.2⟩
  · have q1 := hq.out.1
    have q2 := hq.out.2.1
    rw [show sameB a (m + 1) 1 a m (d + 1) = false by first | (simp [sameB]; done) | (simp [sameB]; omega)] at q1
    rw [show sameB a (m + 1) 1 a (m + 1) 1 = true by simp [sameB]] at q2
    clear HH
    go_wp2
    go_ret
    exact ⟨rfl, Y1.out.2.2.2⟩
  · have q1 := hq.out.1
    have q2 := hq.out.2.1
    have q3 := hq.out.2.2
    rw [show sameB (y + 1) 1 1 y 12 (31 + 1) = false by first | (simp [sameB]; done) | (simp [sameB]; omega)] at q1
    rw [show sameB (y + 1) 1 1 y (12 + 1) 1 = false by first | (simp [sameB]; done) | (simp [sameB]; omega)] at q2
    rw [show sameB (y + 1) 1 1 (y + 1) 1 1 = true by simp [sameB]] at q3
    simp only [Int.reduceAdd] at q1 q2
    clear HH
    go_wp2
    go_ret
    exact ⟨rfl, Y1.out.2.2.2⟩

theorem walk (n : Int) (w : World) (wn : -9223372036854775808 ≤ n ∧ n ≤ 9223372036854775807) (hw : LaidC w) :
    Calls Tryd.prog 6 #[.int .i64 n] w fun e w' => e = .returned (.bool true) ∧ Below w.heap.size w w' := by
  cases hb : dayB n with
  | false =>
    refine out n w wn ((dayB_not n).1 hb) (fun W h => awake_any W (hw.below h)) (fun W h => ?_)
    have := date_any n W (hw.below h)
    simp only [dY, dM, dD, dE, hb, Bool.false_eq_true, if_false] at this
    exact this
  | true =>
    obtain ⟨n0, n1⟩ := (dayB_iff n).1 hb
    obtain ⟨hv, hn⟩ := dt_spec n n0
    have y0 := yr_ge n n0
    have y1 := yr_le n n0 n1
    have hl := ml_bd (yr n) (mo n)
    have hok : okD (yr n) (mo n) (da n) = true := (okD_iff _ _ _).2 ⟨hv, by omega, by omega⟩
    have hx := num_next _ _ _ hv
    have hv' := hv
    obtain ⟨m0, m1, d0, d1⟩ := hv
    have hD := fun W (h : Below w.heap.size w W) => date_any n W (hw.below h)
    simp only [dY, dM, dD, dE, hb, if_true] at hD
    refine core n (yr n) (mo n) (da n) (dY (n + 1)) (dM (n + 1)) (dD (n + 1)) (dE (n + 1)) w n0 n1 d0 (by omega) m0 m1 y0 (by omega) (fun W h => awake_any W (hw.below h)) hD (fun W h => ?_) (fun W h => date_any (n + 1) W (hw.below h)) ?_
    · have := day_any (yr n) (mo n) (da n) W (hw.below h) (by omega) (by omega)
      rw [show dayN (yr n) (mo n) (da n) = n by unfold dayN; rw [hok, if_pos rfl, hn], show dayEr (yr n) (mo n) (da n) = 0 by unfold dayEr; rw [hok, if_pos rfl]] at this
      exact this
    · by_cases hn1 : n = 100000
      · left
        refine ⟨?_, hn1⟩
        unfold dE; rw [(dayB_not _).2 (by omega)]; rfl
      · right
        have hb1 : dayB (n + 1) = true := (dayB_iff _).2 (by omega)
        simp only [dY, dM, dD, dE, hb1, if_true, true_and]
        rw [hn] at hx
        rcases hx with ⟨g1, g2, g3⟩ | ⟨g1, g2, g3, g4⟩ | ⟨g1, g2, g3, g4⟩
        · left
          have t := dt_of _ _ _ g2 (by omega)
          rw [g3] at t
          exact ⟨t.1, t.2.1, t.2.2, by omega⟩
        · right; left
          have t := dt_of _ _ _ g3 (by omega)
          rw [g4] at t
          exact ⟨t.1, t.2.1, t.2.2, by omega, g2⟩
        · right; right
          have t := dt_of _ _ _ g3 (by omega)
          rw [g4] at t
          refine ⟨t.1, t.2.1, t.2.2, g2, ?_⟩
          rw [g1, g2]; rfl

set_option maxRecDepth 100000 in
theorem contract (H : Type) (enc : TypeId × Value → H) (W : World) (base : Nat) (args : Array Value) (ds gs : List (DataW H)) (before : List MemPlace)
    (hval : ∀ (j : Nat) t v, Tryd.f6.params[j]? = some t → args[j]? = some v → Value.okWide Tryd.prog W .any base t v)
    (hW : DataW.Whole enc Tryd.prog Tryd.f6.params.toList Rows.calendarFollowsSpec.vars false W args.toList ds gs before) (hL : laidMetH Tryd.prog Rows.calendarFollowsRow.laid W) (hSh : W.ShapedOpen Tryd.prog) :
    Calls Tryd.prog 6 args W fun e W' => ∃ v, e = .returned v ∧ Rows.calendarFollowsSpec.post enc Tryd.prog Tryd.f6 false true false false W args v W' := by
  have hW' := hW
  obtain ⟨p, q, hA0, hV, rfl, hfz, hnd⟩ := hW
  have hA : DataW.TrodAll enc Tryd.prog W 0 (fun _ => true) true Tryd.f6.params.toList args.toList ds p := hA0
  rw [Tryd.params6] at hA hval
  obtain ⟨v0, vs0, d0, ds0, p0, q0, hargs, rfl, rfl, h0, r0⟩ := trodAll_cons hA
  obtain ⟨rfl, rfl, rfl⟩ := trodAll_nil r0
  obtain rfl : args = #[v0] := by cases args; simp_all
  obtain ⟨rfl, rfl⟩ := trodVars_none hV
  have k0 := h0
  have lt0 : ∀ x ∈ p0, x.block < W.heap.size := by obtain ⟨m, hm⟩ := k0; exact DataW.trod_lt m _ _ _ hm
  obtain ⟨a0, rfl, rfl, rfl, w0⟩ := open_int Tryd.underlying3 (hval 0 3 v0 rfl rfl) h0
  clear hA0
  refine (walk a0 W (wf_bd w0) (laid_of rfl hL)).mono fun e W' ⟨he, bel⟩ => ?_
  subst he
  exact ⟨_, rfl, _, _, _, [], _, [], hW', trodAll_mk1 (shut_bool Tryd.underlying4 _), (trodAll_cons_mk (Below.trod laidOut (by kernel_rfl) (of_decide_eq_true (by kernel_rfl)) k0 bel lt0) trodAll_mk0), rfl, bel.frame _, fun h => by cases h⟩

noncomputable def laidWorld (os : Os) : World := World.laidAll Tryd.prog os Rows.calendarFollowsRow.laid
theorem laid_met (os : Os) : laidMet Tryd.prog Rows.calendarFollowsRow.laid ((laidWorld os).forCall (fun _ _ => 0) ⟨#[], #[.int .i64 0], []⟩).memory :=
  laidMet_laidAll _ (by kernel_rfl) (by kernel_rfl)
theorem reads (os : Os) {H : Type} (enc : TypeId × Value → H) : ∃ places, DataW.whole enc Tryd.prog ((laidWorld os).forCall (fun _ _ => 0) ⟨#[], #[.int .i64 0], []⟩).memory Tryd.f6.params.toList Rows.calendarFollowsSpec.vars false (#[.int .i64 0] : Array Value).toList 8 = some ([.lit (.int .i64 0)], [], places) :=
  ⟨[], by kernel_rfl⟩

set_option maxRecDepth 100000 in
theorem lifted (os : Os) (started : os.Started) (H : Type) (enc : TypeId × Value → H) (F : Stop.Interp) :
    ReturnsInHanded {} Tryd.checked os 6 .any ((OpenSpec.ofChange Rows.calendarFollowsSpec).preRow enc Tryd.prog Tryd.f6 Rows.calendarFollowsRow.domain false Rows.calendarFollowsRow.laid) (((OpenSpec.ofChange Rows.calendarFollowsSpec).at F).post enc Tryd.prog Tryd.f6 false true false false) := by
  obtain ⟨places, hx⟩ := reads os enc
  refine returnsInHanded_of_row (C := Tryd.checked) (s := OpenSpec.ofChange Rows.calendarFollowsSpec) own started (by kernel_rfl) Tryd.func6
    (witness_row_at (enc := enc) (C := Tryd.checked) false (laidWorld os) #[.int .i64 0] (World.laidAll_os _ _ _) (by kernel_rfl) (by kernel_rfl) (by kernel_rfl)
      (OpenSpec.preRow_of_cond 8 hx (by kernel_rfl) (fun k hk => by cases hk) (by kernel_rfl) (laid_met os))) ?_
  intro W base args ds gs before hval hW _ _ _ hL hSh _
  exact contract H enc W base args ds gs before hval hW hL hSh

theorem said : Rows.CalendarFollowsSaid :=
  OpenClaim.holds_of_cond 6 Tryd.f6 rfl rfl rfl rfl rfl rfl rfl ⟨rfl, rfl, rfl, rfl, rfl⟩ rfl rfl rfl rfl rfl (by kernel_rfl) Tryd.func6 (by kernel_rfl)
    (of_decide_eq_true (by kernel_rfl)) (by unfold Func.isWrapper; first | (rw [if_pos (by decide +kernel)]; kernel_rfl) | (rw [if_neg (by decide +kernel)]; exact ⟨rfl, rfl⟩))
    (fun os started H enc _ F => by rw [OpenClaim.pre_eq_preRow]; exact lifted os started H enc F)

theorem plain (f : FuncId) (fn : Func) (hf : Tryd.pinned.checked.prog.funcNamed "spile/spilelaw04.CalendarFollows" = some f) (hfn : Tryd.pinned.checked.prog.funcs[f]? = some fn) :
    false = Tryd.pinned.checked.prog.looks [] ∧ ∀ (j : Nat) t, fn.params[j]? = some t → Tryd.pinned.checked.prog.wantsStandIn t = false := by
  obtain rfl : f = 6 := Option.some.inj ((show Tryd.prog.funcNamed "spile/spilelaw04.CalendarFollows" = some 6 by kernel_rfl).symm.trans hf) |>.symm
  obtain rfl : fn = Tryd.f6 := (Option.some.inj (Tryd.func6.symm.trans hfn)).symm
  refine ⟨by kernel_rfl, fun j t ht => ?_⟩
  rw [Tryd.params6] at ht
  rcases j with _ | j
  · obtain rfl : t = 3 := by simpa using ht.symm
    exact (show Tryd.prog.wantsStandIn 3 = false by kernel_rfl)
  · simp at ht

theorem proved : Rows.CalendarFollowsCardSaid :=
  Claim7.holds_tied_plain_at .later [] _ _ _ _ said (fun _ h => by cases h) (by kernel_rfl) (fun _ h => by cases h) calendarFollows_row_tie rfl ⟨rfl, rfl⟩ (by kernel_rfl) rfl plain (by kernel_rfl)
#print axioms proved
end Go.Proofs.YtdhckbjebccdbabDoor.calendarFollows
