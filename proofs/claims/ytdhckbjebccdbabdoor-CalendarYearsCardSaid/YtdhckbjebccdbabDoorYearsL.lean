/-
  The statement CalendarYears of spile/spilelaw04 holds: for every input the call returns true, and each argument reads afterwards as it read before. (The listed package variables hold what the program lays: the card ties them.)
-/
import Derived.Test.YtdhckbjebccdbabDoorOpenC
import Derived.Test.YtdhckbjebccdbabDoorCards
import Derived.Test.YtdhckbjebccdbabDoorTie
import Derived.Below
import Derived.Carry
import Derived.Lib.LaidTab
import Derived.Deep.DeepHandedRow
import Derived.SevenTiedPlain
import Derived.Lay
namespace Go.Proofs.YtdhckbjebccdbabDoor.calendarYears
open Go.ChangeShapes Go.WideShapes Go.ChangeAt Go.RowKit
open Go.ChangeMaps (open_string shut_string)
set_option linter.unusedVariables false

set_option maxHeartbeats 1000000 in
theorem core (n t k N E A Ae B Be M Me : Int) (w : World) (wk : -9223372036854775808 ≤ k ∧ k ≤ 9223372036854775807)
    (HA : Hid (Calls Tryd.prog 10 #[] w fun e w' => e = .returned (.bool true) ∧ Below w.heap.size w w'))
    (H1 : Hid (∀ W, Below w.heap.size w W → Calls Tryd.prog 21 #[.int .i64 n, .int .i64 t] W fun e w' => e = .returned (.tuple #[.int .i64 N, .int .i64 E]) ∧ Below W.heap.size W w'))
    (H2 : Hid (∀ W, Below w.heap.size w W → Calls Tryd.prog 19 #[.int .i64 n, .int .i64 (12 * N)] W fun e w' => e = .returned (.tuple #[.int .i64 A, .int .i64 Ae]) ∧ Below W.heap.size W w'))
    (H3 : Hid (∀ W, Below w.heap.size w W → Calls Tryd.prog 19 #[.int .i64 n, .int .i64 (12 * (N + 1))] W fun e w' => e = .returned (.tuple #[.int .i64 B, .int .i64 Be]) ∧ Below W.heap.size W w'))
    (H4 : Hid (∀ W, Below w.heap.size w W → 0 ≤ t → t ≤ 100000 → 0 ≤ k → k ≤ 100000 → Calls Tryd.prog 21 #[.int .i64 n, .int .i64 (t + k)] W fun e w' => e = .returned (.tuple #[.int .i64 M, .int .i64 Me]) ∧ Below W.heap.size W w'))
    (h : (N = 0 ∧ (E == 0) = false ∧ (E != 0) = true) ∨ (E = 0 ∧ 0 ≤ t ∧ t ≤ 100000 ∧ 0 ≤ N ∧ N ≤ 273 ∧ Ae = 0 ∧ A ≤ t ∧ (((Be == 0) = false ∧ (Be != 0) = true) ∨ (Be = 0 ∧ t < B)) ∧ (0 ≤ k → (((Me == 0) = false ∧ (Me != 0) = true) ∨ (Me = 0 ∧ N ≤ M))))) :
    Calls Tryd.prog 9 #[.int .i64 n, .int .i64 t, .int .i64 k] w fun e w' => e = .returned (.bool true) ∧ Below w.heap.size w w' := by
  obtain ⟨k0, k1⟩ := wk
  rcases h with ⟨rfl, h1, h2⟩ | ⟨rfl, t0, t1, n0, n1, rfl, ha, hb, hm⟩
  · go_enter Tryd.func9, Tryd.ntmps9
    go_wp2_with fail
    refine HA.out.mono ?_
    rintro e w1 ⟨rfl, h1⟩
    have HB := Lib.hid h1; clear h1
    go_wp2_with fail
    refine (H1.out _ HB.out).mono ?_
    rintro e w2 ⟨rfl, h1⟩
    replace HB := Lib.hid (bel_trans HB.out h1); clear h1
    go_wp2
    go_ret
    exact ⟨rfl, HB.out⟩
  · have HM := Lib.hid hm; clear hm
    rcases hb with ⟨b1, b2⟩ | ⟨rfl, b1⟩
    all_goals
      by_cases hk : k < 0
      · go_enter Tryd.func9, Tryd.ntmps9
        go_wp2_with fail
        refine HA.out.mono ?_
        rintro e w1 ⟨rfl, h1⟩
        have HB := Lib.hid h1; clear h1
        go_wp2_with fail
        refine (H1.out _ HB.out).mono ?_
        rintro e w2 ⟨rfl, h1⟩
        replace HB := Lib.hid (bel_trans HB.out h1); clear h1
        go_wp2_with fail
        refine (H2.out _ HB.out).mono ?_
        rintro e w3 ⟨rfl, h1⟩
        replace HB := Lib.hid (bel_trans HB.out h1); clear h1
        go_wp2_with fail
        refine (H3.out _ HB.out).mono ?_
        rintro e w4 ⟨rfl, h1⟩
        replace HB := Lib.hid (bel_trans HB.out h1); clear h1
        go_wp2
        go_ret
        exact ⟨rfl, HB.out⟩
      · by_cases hk2 : 100000 < k
        · go_enter Tryd.func9, Tryd.ntmps9
          go_wp2_with fail
          refine HA.out.mono ?_
          rintro e w1 ⟨rfl, h1⟩
          have HB := Lib.hid h1; clear h1
          go_wp2_with fail
          refine (H1.out _ HB.out).mono ?_
          rintro e w2 ⟨rfl, h1⟩
          replace HB := Lib.hid (bel_trans HB.out h1); clear h1
          go_wp2_with fail
          refine (H2.out _ HB.out).mono ?_
          rintro e w3 ⟨rfl, h1⟩
          replace HB := Lib.hid (bel_trans HB.out h1); clear h1
          go_wp2_with fail
          refine (H3.out _ HB.out).mono ?_
          rintro e w4 ⟨rfl, h1⟩
          replace HB := Lib.hid (bel_trans HB.out h1); clear h1
          go_wp2
          go_ret
          exact ⟨rfl, HB.out⟩
        · have HK := Lib.hid (fun W hW => H4.out W hW t0 t1 (by omega) (by omega))
          have e0 : 0 ≤ k := by omega
          have e1 : k ≤ 100000 := by omega
          clear hk hk2 H4
          rcases HM.out e0 with ⟨m1, m2⟩ | ⟨rfl, m1⟩
          all_goals
            clear HM
            go_enter Tryd.func9, Tryd.ntmps9
            go_wp2_with fail
            refine HA.out.mono ?_
            rintro e w1 ⟨rfl, h1⟩
            have HB := Lib.hid h1; clear h1
            go_wp2_with fail
            refine (H1.out _ HB.out).mono ?_
            rintro e w2 ⟨rfl, h1⟩
            replace HB := Lib.hid (bel_trans HB.out h1); clear h1
            go_wp2_with fail
            refine (H2.out _ HB.out).mono ?_
            rintro e w3 ⟨rfl, h1⟩
            replace HB := Lib.hid (bel_trans HB.out h1); clear h1
            go_wp2_with fail
            refine (H3.out _ HB.out).mono ?_
            rintro e w4 ⟨rfl, h1⟩
            replace HB := Lib.hid (bel_trans HB.out h1); clear h1
            go_wp2_with fail
            refine (HK.out _ HB.out).mono ?_
            rintro e w5 ⟨rfl, h1⟩
            replace HB := Lib.hid (bel_trans HB.out h1); clear h1
            go_wp2
            go_ret
            exact ⟨rfl, HB.out⟩

theorem walk (n t k : Int) (w : World) (wn : -9223372036854775808 ≤ n ∧ n ≤ 9223372036854775807) (wt : -9223372036854775808 ≤ t ∧ t ≤ 9223372036854775807) (wk : -9223372036854775808 ≤ k ∧ k ≤ 9223372036854775807) (hw : LaidC w) :
    Calls Tryd.prog 9 #[.int .i64 n, .int .i64 t, .int .i64 k] w fun e w' => e = .returned (.bool true) ∧ Below w.heap.size w w' := by
  by_cases hok : dayB n = true ∧ dayB t = true ∧ n ≤ t
  · obtain ⟨hn, ht, hle⟩ := hok
    obtain ⟨n0, n1⟩ := (dayB_iff n).1 hn
    obtain ⟨t0, t1⟩ := (dayB_iff t).1 ht
    have hN : yeN n t = yrs n t := by unfold yeN; rw [if_pos ⟨hn, ht, hle⟩]
    have hE : yeE n t = 0 := by unfold yeE; rw [if_pos ⟨hn, ht⟩, if_pos hle]
    obtain ⟨y0, y1, y2⟩ := yrs_spec n t n0 hle
    have y3 := yrs_le n t n0 hle t1
    have m1 : monB (12 * yrs n t) = true := (monB_iff _).2 (by omega)
    have m2 : monB (12 * (yrs n t + 1)) = true := (monB_iff _).2 (by omega)
    have l0 : n ≤ lat n (12 * yrs n t) := by
      by_cases e : yrs n t = 0
      · rw [e, Int.mul_zero, lat_zero n n0]; exact Int.le_refl _
      · have := lat_lt n 0 (12 * yrs n t) n0 (by omega)
        rw [lat_zero n n0] at this; omega
    have ld : dayB (lat n (12 * yrs n t)) = true := (dayB_iff _).2 (by omega)
    refine core n t k (yeN n t) (yeE n t) (laN n (12 * yeN n t)) (laE n (12 * yeN n t)) (laN n (12 * (yeN n t + 1))) (laE n (12 * (yeN n t + 1))) (yeN n (t + k)) (yeE n (t + k)) w wk (awake_any w hw)
      (fun W h => years_any n t W (hw.below h) wn wt) (fun W h => later_any n _ W (hw.below h)) (fun W h => later_any n _ W (hw.below h)) (fun W h _ _ a b => years_any n _ W (hw.below h) wn (by omega)) (.inr ?_)
    rw [hN, hE]
    refine ⟨rfl, t0, t1, y0, y3, by simp [laE, hn, m1, ld], by simp [laN, hn, m1, ld]; exact y1, ?_, ?_⟩
    · unfold laN laE
      cases hx : dayB (lat n (12 * (yrs n t + 1))) with
      | true => right; simp [hn, m2]; exact y2
      | false => left; simp [hn, m2]
    · intro hk
      unfold yeE
      by_cases hx : dayB n = true ∧ dayB (t + k) = true
      · rw [if_pos hx]
        by_cases hy : n ≤ t + k
        · right
          rw [if_pos hy]
          refine ⟨rfl, ?_⟩
          unfold yeN
          rw [if_pos ⟨hx.1, hx.2, hy⟩]
          exact yrs_mono n t (t + k) n0 hle (by omega)
        · left; rw [if_neg hy]; decide
      · left; rw [if_neg hx]; decide
  · refine core n t k (yeN n t) (yeE n t) (laN n (12 * yeN n t)) (laE n (12 * yeN n t)) (laN n (12 * (yeN n t + 1))) (laE n (12 * (yeN n t + 1))) (yeN n (t + k)) (yeE n (t + k)) w wk (awake_any w hw)
      (fun W h => years_any n t W (hw.below h) wn wt) (fun W h => later_any n _ W (hw.below h)) (fun W h => later_any n _ W (hw.below h)) (fun W h _ _ a b => years_any n _ W (hw.below h) wn (by omega)) (.inl ?_)
    · have hN : yeN n t = 0 := by unfold yeN; rw [if_neg hok]
      rw [hN]
      refine ⟨rfl, ?_⟩
      unfold yeE
      by_cases hx : dayB n = true ∧ dayB t = true
      · rw [if_pos hx, if_neg (fun h => hok ⟨hx.1, hx.2, h⟩)]; decide
      · rw [if_neg hx]; decide

set_option maxRecDepth 100000 in
theorem contract (H : Type) (enc : TypeId × Value → H) (W : World) (base : Nat) (args : Array Value) (ds gs : List (DataW H)) (before : List MemPlace)
    (hval : ∀ (j : Nat) t v, Tryd.f9.params[j]? = some t → args[j]? = some v → Value.okWide Tryd.prog W .any base t v)
    (hW : DataW.Whole enc Tryd.prog Tryd.f9.params.toList Rows.calendarYearsSpec.vars false W args.toList ds gs before) (hL : laidMetH Tryd.prog Rows.calendarYearsRow.laid W) (hSh : W.ShapedOpen Tryd.prog) :
    Calls Tryd.prog 9 args W fun e W' => ∃ v, e = .returned v ∧ Rows.calendarYearsSpec.post enc Tryd.prog Tryd.f9 false true false false W args v W' := by
  have hW' := hW
  obtain ⟨p, q, hA0, hV, rfl, hfz, hnd⟩ := hW
  have hA : DataW.TrodAll enc Tryd.prog W 0 (fun _ => true) true Tryd.f9.params.toList args.toList ds p := hA0
  rw [Tryd.params9] at hA hval
  obtain ⟨v0, vs0, d0, ds0, p0, q0, hargs, rfl, rfl, h0, r0⟩ := trodAll_cons hA
  obtain ⟨v1, vs1, d1, ds1, p1, q1, rfl, rfl, rfl, h1, r1⟩ := trodAll_cons r0
  obtain ⟨v2, vs2, d2, ds2, p2, q2, rfl, rfl, rfl, h2, r2⟩ := trodAll_cons r1
  obtain ⟨rfl, rfl, rfl⟩ := trodAll_nil r2
  obtain rfl : args = #[v0, v1, v2] := by cases args; simp_all
  obtain ⟨rfl, rfl⟩ := trodVars_none hV
  have k0 := h0
  have lt0 : ∀ x ∈ p0, x.block < W.heap.size := by obtain ⟨m, hm⟩ := k0; exact DataW.trod_lt m _ _ _ hm
  have k1 := h1
  have lt1 : ∀ x ∈ p1, x.block < W.heap.size := by obtain ⟨m, hm⟩ := k1; exact DataW.trod_lt m _ _ _ hm
  have k2 := h2
  have lt2 : ∀ x ∈ p2, x.block < W.heap.size := by obtain ⟨m, hm⟩ := k2; exact DataW.trod_lt m _ _ _ hm
  obtain ⟨a0, rfl, rfl, rfl, w0⟩ := open_int Tryd.underlying3 (hval 0 3 v0 rfl rfl) h0
  obtain ⟨a1, rfl, rfl, rfl, w1⟩ := open_int Tryd.underlying3 (hval 1 3 v1 rfl rfl) h1
  obtain ⟨a2, rfl, rfl, rfl, w2⟩ := open_int Tryd.underlying3 (hval 2 3 v2 rfl rfl) h2
  clear hA0
  refine (walk a0 a1 a2 W (wf_bd w0) (wf_bd w1) (wf_bd w2) (laid_of rfl hL)).mono fun e W' ⟨he, bel⟩ => ?_
  subst he
  exact ⟨_, rfl, _, _, _, [], _, [], hW', trodAll_mk1 (shut_bool Tryd.underlying4 _), (trodAll_cons_mk (Below.trod laidOut (by kernel_rfl) (of_decide_eq_true (by kernel_rfl)) k0 bel lt0) (trodAll_cons_mk (Below.trod laidOut (by kernel_rfl) (of_decide_eq_true (by kernel_rfl)) k1 bel lt1) (trodAll_cons_mk (Below.trod laidOut (by kernel_rfl) (of_decide_eq_true (by kernel_rfl)) k2 bel lt2) trodAll_mk0))), rfl, bel.frame _, fun h => by cases h⟩

noncomputable def laidWorld (os : Os) : World := World.laidAll Tryd.prog os Rows.calendarYearsRow.laid
theorem laid_met (os : Os) : laidMet Tryd.prog Rows.calendarYearsRow.laid ((laidWorld os).forCall (fun _ _ => 0) ⟨#[], #[.int .i64 0, .int .i64 0, .int .i64 0], []⟩).memory :=
  laidMet_laidAll _ (by kernel_rfl) (by kernel_rfl)
theorem reads (os : Os) {H : Type} (enc : TypeId × Value → H) : ∃ places, DataW.whole enc Tryd.prog ((laidWorld os).forCall (fun _ _ => 0) ⟨#[], #[.int .i64 0, .int .i64 0, .int .i64 0], []⟩).memory Tryd.f9.params.toList Rows.calendarYearsSpec.vars false (#[.int .i64 0, .int .i64 0, .int .i64 0] : Array Value).toList 8 = some ([.lit (.int .i64 0), .lit (.int .i64 0), .lit (.int .i64 0)], [], places) :=
  ⟨[], by kernel_rfl⟩

set_option maxRecDepth 100000 in
theorem lifted (os : Os) (started : os.Started) (H : Type) (enc : TypeId × Value → H) (F : Stop.Interp) :
    ReturnsInHanded {} Tryd.checked os 9 .any ((OpenSpec.ofChange Rows.calendarYearsSpec).preRow enc Tryd.prog Tryd.f9 Rows.calendarYearsRow.domain false Rows.calendarYearsRow.laid) (((OpenSpec.ofChange Rows.calendarYearsSpec).at F).post enc Tryd.prog Tryd.f9 false true false false) := by
  obtain ⟨places, hx⟩ := reads os enc
  refine returnsInHanded_of_row (C := Tryd.checked) (s := OpenSpec.ofChange Rows.calendarYearsSpec) own started (by kernel_rfl) Tryd.func9
    (witness_row_at (enc := enc) (C := Tryd.checked) false (laidWorld os) #[.int .i64 0, .int .i64 0, .int .i64 0] (World.laidAll_os _ _ _) (by kernel_rfl) (by kernel_rfl) (by kernel_rfl)
      (OpenSpec.preRow_of_cond 8 hx (by kernel_rfl) (fun k hk => by cases hk) (by kernel_rfl) (laid_met os))) ?_
  intro W base args ds gs before hval hW _ _ _ hL hSh _
  exact contract H enc W base args ds gs before hval hW hL hSh

theorem said : Rows.CalendarYearsSaid :=
  OpenClaim.holds_of_cond 9 Tryd.f9 rfl rfl rfl rfl rfl rfl rfl ⟨rfl, rfl, rfl, rfl, rfl⟩ rfl rfl rfl rfl rfl (by kernel_rfl) Tryd.func9 (by kernel_rfl)
    (of_decide_eq_true (by kernel_rfl)) (by unfold Func.isWrapper; first | (rw [if_pos (by decide +kernel)]; kernel_rfl) | (rw [if_neg (by decide +kernel)]; exact ⟨rfl, rfl⟩))
    (fun os started H enc _ F => by rw [OpenClaim.pre_eq_preRow]; exact lifted os started H enc F)

theorem plain (f : FuncId) (fn : Func) (hf : Tryd.pinned.checked.prog.funcNamed "spile/spilelaw04.CalendarYears" = some f) (hfn : Tryd.pinned.checked.prog.funcs[f]? = some fn) :
    false = Tryd.pinned.checked.prog.looks [] ∧ ∀ (j : Nat) t, fn.params[j]? = some t → Tryd.pinned.checked.prog.wantsStandIn t = false := by
  obtain rfl : f = 9 := Option.some.inj ((show Tryd.prog.funcNamed "spile/spilelaw04.CalendarYears" = some 9 by kernel_rfl).symm.trans hf) |>.symm
  obtain rfl : fn = Tryd.f9 := (Option.some.inj (Tryd.func9.symm.trans hfn)).symm
  refine ⟨by kernel_rfl, fun j t ht => ?_⟩
  rw [Tryd.params9] at ht
  rcases j with _ | _ | _ | j
  · obtain rfl : t = 3 := by simpa using ht.symm
    exact (show Tryd.prog.wantsStandIn 3 = false by kernel_rfl)
  · obtain rfl : t = 3 := by simpa using ht.symm
    exact (show Tryd.prog.wantsStandIn 3 = false by kernel_rfl)
  · obtain rfl : t = 3 := by simpa using ht.symm
    exact (show Tryd.prog.wantsStandIn 3 = false by kernel_rfl)
  · simp at ht

theorem proved : Rows.CalendarYearsCardSaid :=
  Claim7.holds_tied_plain_at .later [] _ _ _ _ said (fun _ h => by cases h) (by kernel_rfl) (fun _ h => by cases h) calendarYears_row_tie rfl ⟨rfl, rfl⟩ (by kernel_rfl) rfl plain (by kernel_rfl)
#print axioms proved
end Go.Proofs.YtdhckbjebccdbabDoor.calendarYears
