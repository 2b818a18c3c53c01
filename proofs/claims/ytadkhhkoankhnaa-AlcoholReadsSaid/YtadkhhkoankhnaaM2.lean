/- Texts that the proofs of this seat share, one behind the other: AR2. -/
import Derived.Test.YtadkhhkoankhnaaM1

set_option linter.unusedVariables false
set_option linter.unusedSimpArgs false

/- The reference of layer 20: volume, and what is reckoned. -/
namespace Go.Proofs.Ytadkhhkoankhnaa
open Go.RowKit

set_option maxHeartbeats 16000000 in
set_option maxRecDepth 100000 in
theorem rlSz_any (v : Value) (l : List (Int × Int)) (A M : Int) (w : World) (hv : Pts w v l) (hD : DR l) (hL : LR l A M) :
    Calls Try.prog 69 #[v, .agg #[.int .i64 A, .int .i64 M]] w fun e w' => e = .returned (.int .i64 (vlN l A M)) ∧ Below w.heap.size w w' := by
  have T0 := Lib.hid ((Two.new w (.int .i64 A) (.int .i64 M) 47).below (bel_drew _))
  have X := Lib.hid (bel_alloc (w := w) (o := .cells #[.int .i64 A, .int .i64 M] 47) (bel_drew _))
  have HG := Lib.hid (fun W (hW : Below w.heap.size w W) => rlGr_any v l A M W (hv.below hW) hD hL)
  have le := sgN_le l A M
  have HA := Lib.hid (fun W (hW : Below w.heap.size w W) => rfAt_any v l (sgN l A M : Int) W (hv.below hW) hD (by omega) (by omega))
  have sb := at_sg hD A M
  have m0 := hL.m0
  have m1 := hL.m1
  have vb := vlN_bd hD hL
  have ev : vlN l A M = M / atD l (sgN l A M) := rfl
  obtain ⟨t0, t1, _, _, _⟩ := T0.out
  generalize atD l (sgN l A M) = D at *
  generalize sgN l A M = S at *
  have nz : (D == 0) = false := by rw [beq_eq_false_iff_ne]; omega
  have nz2 : ¬ D = 0 := by omega
  have wq : IntKind.i64.wrap (M.tdiv D) = vlN l A M := by rw [Int.tdiv_eq_ediv_of_nonneg m0, ← ev]; exact wrap_in _ ⟨by omega, by omega⟩
  have wq2 : M / D = vlN l A M := ev.symm
  clear ev
  generalize vlN l A M = V at *
  go_enter Try.func69, Try.ntmps69
  go_wp2_with fail
  go_region_held3 (fun w' => w'.cell? ⟨w.heap.size, 0, none⟩ = some (.int .i64 A) ∧ w'.cell? ⟨w.heap.size, 1, none⟩ = some (.int .i64 M)) (go_keep) (first
    | (go_at_call 68; (with_reducible refine (HG.out _ X.out).mono ?_); rintro e w3 ⟨rfl, gg⟩; replace T0 := Lib.hid (T0.out.below gg); replace X := Lib.hid (bel_trans X.out gg); obtain ⟨t0, t1, _, _, _⟩ := T0.out; clear gg)
    | (go_at_call 52; (with_reducible refine (HA.out _ X.out).mono ?_); rintro e w4 ⟨rfl, gg⟩; replace T0 := Lib.hid (T0.out.below gg); replace X := Lib.hid (bel_trans X.out gg); obtain ⟨t0, t1, _, _, _⟩ := T0.out; clear gg))
  all_goals go_wp2
  all_goals go_returns
  all_goals exact ⟨by first | rfl | rw [wq2], X.out⟩

set_option maxHeartbeats 4000000 in
theorem rlSt_any (v : Value) (l : List (Int × Int)) (A M : Int) (w : World) (hv : Pts w v l) :
    Calls Try.prog 39 #[v, .agg #[.int .i64 A, .int .i64 M]] w fun e w' => e = .returned (.tuple #[.int .i64 (sgV l A M), .int .i64 (meE l A M)]) ∧ Below w.heap.size w w' := by
  have HM := Lib.hid (fun W (hW : Below w.heap.size w W) => rlChk_any v l A M W (hv.below hW))
  have T0 := Lib.hid (Two.new w (.int .i64 A) (.int .i64 M) 47)
  have X := Lib.hid (bel_alloc (w := w) (o := .cells #[.int .i64 A, .int .i64 M] 47) (Below.refl _ _))
  obtain ⟨t0, t1, _, _, _⟩ := T0.out
  by_cases he : alE l A M = 0
  · obtain ⟨hD, hL⟩ := alE_zero.1 he
    have HC := Lib.hid (fun W (hW : Below w.heap.size w W) => rlGr_any v l A M W (hv.below hW) hD hL)
    rw [show meE l A M = 0 by unfold meE; rw [if_pos he], show sgV l A M = (sgN l A M : Int) by unfold sgV; rw [if_pos he]]
    rw [he] at HM
    clear he
    generalize sgN l A M = S at *
    go_enter Try.func39, Try.ntmps39
    go_wp2_with fail
    refine (HM.out _ X.out).mono ?_
    rintro e w1 ⟨rfl, gg⟩
    replace T0 := Lib.hid (T0.out.below gg)
    replace X := Lib.hid (bel_trans X.out gg); clear gg
    obtain ⟨t0, t1, _, _, _⟩ := T0.out
    go_wp2_with fail
    refine (HC.out _ X.out).mono ?_
    rintro e w2 ⟨rfl, gg⟩
    replace X := Lib.hid (bel_trans X.out gg); clear gg
    go_wp2
    go_returns
    exact ⟨rfl, X.out⟩
  · rw [show meE l A M = 1 by unfold meE; rw [if_neg he], show sgV l A M = 0 by unfold sgV; rw [if_neg he]]
    have d0 : (alE l A M != 0) = true := by simpa using he
    clear he
    generalize alE l A M = E at *
    go_enter Try.func39, Try.ntmps39
    go_wp2_with fail
    refine (HM.out _ X.out).mono ?_
    rintro e w1 ⟨rfl, gg⟩
    replace X := Lib.hid (bel_trans X.out gg); clear gg
    go_wp2
    go_returns
    exact ⟨rfl, X.out⟩

set_option maxHeartbeats 4000000 in
theorem rlVl_any (v : Value) (l : List (Int × Int)) (A M : Int) (w : World) (hv : Pts w v l) :
    Calls Try.prog 41 #[v, .agg #[.int .i64 A, .int .i64 M]] w fun e w' => e = .returned (.tuple #[.int .i64 (vlV l A M), .int .i64 (meE l A M)]) ∧ Below w.heap.size w w' := by
  have HM := Lib.hid (fun W (hW : Below w.heap.size w W) => rlChk_any v l A M W (hv.below hW))
  have T0 := Lib.hid (Two.new w (.int .i64 A) (.int .i64 M) 47)
  have X := Lib.hid (bel_alloc (w := w) (o := .cells #[.int .i64 A, .int .i64 M] 47) (Below.refl _ _))
  obtain ⟨t0, t1, _, _, _⟩ := T0.out
  by_cases he : alE l A M = 0
  · obtain ⟨hD, hL⟩ := alE_zero.1 he
    have HC := Lib.hid (fun W (hW : Below w.heap.size w W) => rlSz_any v l A M W (hv.below hW) hD hL)
    rw [show meE l A M = 0 by unfold meE; rw [if_pos he], show vlV l A M = vlN l A M by unfold vlV; rw [if_pos he]]
    rw [he] at HM
    clear he
    generalize vlN l A M = S at *
    go_enter Try.func41, Try.ntmps41
    go_wp2_with fail
    refine (HM.out _ X.out).mono ?_
    rintro e w1 ⟨rfl, gg⟩
    replace T0 := Lib.hid (T0.out.below gg)
    replace X := Lib.hid (bel_trans X.out gg); clear gg
    obtain ⟨t0, t1, _, _, _⟩ := T0.out
    go_wp2_with fail
    refine (HC.out _ X.out).mono ?_
    rintro e w2 ⟨rfl, gg⟩
    replace X := Lib.hid (bel_trans X.out gg); clear gg
    go_wp2
    go_returns
    exact ⟨rfl, X.out⟩
  · rw [show meE l A M = 1 by unfold meE; rw [if_neg he], show vlV l A M = 0 by unfold vlV; rw [if_neg he]]
    have d0 : (alE l A M != 0) = true := by simpa using he
    clear he
    generalize alE l A M = E at *
    go_enter Try.func41, Try.ntmps41
    go_wp2_with fail
    refine (HM.out _ X.out).mono ?_
    rintro e w1 ⟨rfl, gg⟩
    replace X := Lib.hid (bel_trans X.out gg); clear gg
    go_wp2
    go_returns
    exact ⟨rfl, X.out⟩

set_option maxHeartbeats 16000000 in
set_option maxRecDepth 100000 in
theorem rlLo_any (v : Value) (l : List (Int × Int)) (A M : Int) (w : World) (hv : Pts w v l) :
    Calls Try.prog 45 #[v, .agg #[.int .i64 A, .int .i64 M]] w fun e w' => e = .returned (.tuple #[.int .i64 (loV l A M), .int .i64 (meE l A M)]) ∧ Below w.heap.size w w' := by
  have HM := Lib.hid (fun W (hW : Below w.heap.size w W) => rlChk_any v l A M W (hv.below hW))
  have T0 := Lib.hid (Two.new w (.int .i64 A) (.int .i64 M) 47)
  have X := Lib.hid (bel_alloc (w := w) (o := .cells #[.int .i64 A, .int .i64 M] 47) (Below.refl _ _))
  obtain ⟨t0, t1, _, _, _⟩ := T0.out
  by_cases he : alE l A M = 0
  · obtain ⟨hD, hL⟩ := alE_zero.1 he
    have HG := Lib.hid (fun W (hW : Below w.heap.size w W) => rlGr_any v l A M W (hv.below hW) hD hL)
    have HS := Lib.hid (fun W (hW : Below w.heap.size w W) => rlSz_any v l A M W (hv.below hW) hD hL)
    rw [show meE l A M = 0 by unfold meE; rw [if_pos he], show loV l A M = A - vlN l A M * (sgN l A M : Int) by unfold loV; rw [if_pos he]]
    rw [he] at HM
    have lb := lost_bd hD hL
    have a1 := hL.a1
    clear he hL hD hv
    generalize sgN l A M = S at *
    generalize vlN l A M = V at *
    have w1 : IntKind.i64.wrap (V * (S : Int)) = V * (S : Int) := wrap_in _ ⟨by omega, by omega⟩
    have w2 : IntKind.i64.wrap (A - V * (S : Int)) = A - V * (S : Int) := wrap_in _ ⟨by omega, by omega⟩
    go_enter Try.func45, Try.ntmps45
    go_wp2_with fail
    refine (HM.out _ X.out).mono ?_
    rintro e w1 ⟨rfl, gg⟩
    replace T0 := Lib.hid ((T0.out.below gg).below (bel_drew w1))
    replace X := Lib.hid (bel_trans (bel_trans X.out gg) (bel_drew w1)); clear gg
    obtain ⟨t0, t1, _, _, _⟩ := T0.out
    go_wp2_with fail
    go_region_held3 (fun w' => w'.cell? ⟨w.heap.size, 0, none⟩ = some (.int .i64 A) ∧ w'.cell? ⟨w.heap.size, 1, none⟩ = some (.int .i64 M)) (go_keep) (first
      | (go_at_call 68; (with_reducible refine (HG.out _ X.out).mono ?_); rintro e w3 ⟨rfl, gg⟩; replace T0 := Lib.hid (T0.out.below gg); replace X := Lib.hid (bel_trans X.out gg); obtain ⟨t0, t1, _, _, _⟩ := T0.out; clear gg)
      | (go_at_call 69; (with_reducible refine (HS.out _ X.out).mono ?_); rintro e w4 ⟨rfl, gg⟩; replace T0 := Lib.hid (T0.out.below gg); replace X := Lib.hid (bel_trans X.out gg); obtain ⟨t0, t1, _, _, _⟩ := T0.out; clear gg))
    all_goals go_wp2
    all_goals go_returns
    all_goals exact ⟨rfl, X.out⟩
  · rw [show meE l A M = 1 by unfold meE; rw [if_neg he], show loV l A M = 0 by unfold loV; rw [if_neg he]]
    have d0 : (alE l A M != 0) = true := by simpa using he
    clear he
    generalize alE l A M = E at *
    go_enter Try.func45, Try.ntmps45
    go_wp2_with fail
    refine (HM.out _ X.out).mono ?_
    rintro e w1 ⟨rfl, gg⟩
    replace X := Lib.hid (bel_trans X.out gg); clear gg
    go_wp2
    go_returns
    exact ⟨rfl, X.out⟩
set_option maxHeartbeats 16000000 in
theorem rlMa_any (v : Value) (l : List (Int × Int)) (A M x : Int) (w : World) (hv : Pts w v l) :
    Calls Try.prog 43 #[v, .agg #[.int .i64 A, .int .i64 M], .int .i64 x] w fun e w' => e = .returned (.tuple #[.int .i64 (maV l A M x), .int .i64 (maE l A M x)]) ∧ Below w.heap.size w w' := by
  have HM := Lib.hid (fun W (hW : Below w.heap.size w W) => rlChk_any v l A M W (hv.below hW))
  have T0 := Lib.hid (Two.new w (.int .i64 A) (.int .i64 M) 47)
  have X := Lib.hid (bel_alloc (w := w) (o := .cells #[.int .i64 A, .int .i64 M] 47) (Below.refl _ _))
  obtain ⟨t0, t1, _, _, _⟩ := T0.out
  by_cases he : alE l A M = 0
  · obtain ⟨hD, hL⟩ := alE_zero.1 he
    have HG := Lib.hid (fun W (hW : Below w.heap.size w W) => rlGr_any v l A M W (hv.below hW) hD hL)
    have HS := Lib.hid (fun W (hW : Below w.heap.size w W) => rlSz_any v l A M W (hv.below hW) hD hL)
    have le := sgN_le l A M
    have HA := Lib.hid (fun W (hW : Below w.heap.size w W) => rfAt_any v l (sgN l A M : Int) W (hv.below hW) hD (by omega) (by omega))
    have sb := at_sg hD A M
    have eE : maE l A M x = if 0 ≤ x ∧ x ≤ 1073741824 then (if vlN l A M < x then 17 else 0) else 2 := by unfold maE; rw [if_neg (by omega)]
    have eV : maV l A M x = if maE l A M x = 0 then x * atD l (sgN l A M) else 0 := rfl
    rw [eV, eE]
    rw [he] at HM
    clear eE eV hL hD he hv
    generalize atD l (sgN l A M) = D at *
    generalize sgN l A M = S at *
    generalize vlN l A M = V at *
    by_cases hx : 0 ≤ x ∧ x ≤ 1073741824
    · rw [if_pos hx]
      have d1 : decide (x < 0) = false := decide_eq_false (by omega)
      have d2 : decide (1073741824 < x) = false := decide_eq_false (by omega)
      have p0 : 0 ≤ x * D := Int.mul_nonneg hx.1 (by omega)
      have p1 : x * D ≤ 1073741824 * 120000 := Int.mul_le_mul hx.2 sb.2 (by omega) (by omega)
      have w1 : IntKind.i64.wrap (x * D) = x * D := wrap_in _ ⟨by omega, by omega⟩
      by_cases hc : V < x
      · have dc : decide (V < x) = true := decide_eq_true hc
        rw [if_pos hc, if_neg (by decide)]
        go_enter Try.func43, Try.ntmps43
        go_wp2_with fail
        refine (HM.out _ X.out).mono ?_
        rintro e w1 ⟨rfl, gg⟩
        replace T0 := Lib.hid (T0.out.below gg)
        replace X := Lib.hid (bel_trans X.out gg); clear gg
        obtain ⟨t0, t1, _, _, _⟩ := T0.out
        go_wp2_with fail
        refine (HS.out _ X.out).mono ?_
        rintro e w2 ⟨rfl, gg⟩
        replace X := Lib.hid (bel_trans X.out gg); clear gg
        go_wp2
        go_returns
        exact ⟨rfl, X.out⟩
      · have dc : decide (V < x) = false := decide_eq_false hc
        rw [if_neg hc, if_pos rfl]
        go_enter Try.func43, Try.ntmps43
        go_wp2_with fail
        refine (HM.out _ X.out).mono ?_
        rintro e w1 ⟨rfl, gg⟩
        replace T0 := Lib.hid (T0.out.below gg)
        replace X := Lib.hid (bel_trans X.out gg); clear gg
        obtain ⟨t0, t1, _, _, _⟩ := T0.out
        go_wp2_with fail
        refine (HS.out _ X.out).mono ?_
        rintro e w2 ⟨rfl, gg⟩
        replace T0 := Lib.hid (T0.out.below gg)
        replace X := Lib.hid (bel_trans X.out gg); clear gg
        obtain ⟨t0, t1, _, _, _⟩ := T0.out
        go_wp2_with fail
        refine (HG.out _ X.out).mono ?_
        rintro e w3 ⟨rfl, gg⟩
        replace X := Lib.hid (bel_trans X.out gg); clear gg
        go_wp2_with fail
        refine (HA.out _ X.out).mono ?_
        rintro e w4 ⟨rfl, gg⟩
        replace X := Lib.hid (bel_trans X.out gg); clear gg
        go_wp2
        go_returns
        exact ⟨rfl, X.out⟩
    · rw [if_neg hx, if_neg (by decide)]
      have dd : decide (x < 0) = true ∨ (decide (x < 0) = false ∧ decide (1073741824 < x) = true) := by
        simp only [decide_eq_true_eq, decide_eq_false_iff_not]; omega
      clear hx
      rcases dd with d1 | ⟨d1, d2⟩
      all_goals
        go_enter Try.func43, Try.ntmps43
        go_wp2_with fail
        refine (HM.out _ X.out).mono ?_
        rintro e w1 ⟨rfl, gg⟩
        replace X := Lib.hid (bel_trans X.out gg); clear gg
        go_wp2
        go_returns
        exact ⟨rfl, X.out⟩
  · have e1 : maE l A M x = 1 := by unfold maE; rw [if_pos he]
    have e2 : maV l A M x = 0 := by unfold maV; rw [if_neg (by omega)]
    have d0 : (alE l A M != 0) = true := by simpa using he
    rw [e1, e2]
    clear he e1 e2
    generalize alE l A M = E at *
    go_enter Try.func43, Try.ntmps43
    go_wp2_with fail
    refine (HM.out _ X.out).mono ?_
    rintro e w1 ⟨rfl, gg⟩
    replace X := Lib.hid (bel_trans X.out gg); clear gg
    go_wp2
    go_returns
    exact ⟨rfl, X.out⟩
end Go.Proofs.Ytadkhhkoankhnaa
