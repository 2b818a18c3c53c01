/- The reference of layer 5: factors and single corrections. -/
import Derived.Test.YtigmpbipbkgnfaaDoorTS
import Derived.Test.YtigmpbipbkgnfaaDoorRefP4
import Derived.Lib.Hide
namespace Go.Proofs.YtigmpbipbkgnfaaDoor
open Go.RowKit

theorem refHeat_any (t : Int) (w : World) :
    Calls Tryd.prog 25 #[.int .i64 t] w fun e w' => e = .returned (.bool (heatB t)) ∧ w = w' := by
  go_enter Tryd.func25, Tryd.ntmps25
  go_wp2
  all_goals go_ret
  all_goals (refine ⟨ret_bool ?_, rfl⟩; unfold heatB; grind)
theorem refFac_any (rise heat : Int) (w : World) (h : facB rise heat = true) :
    Calls Tryd.prog 26 #[.int .i64 rise, .int .i64 heat] w fun e w' => e = .returned (.int .i64 (fac rise heat)) ∧ w = w' := by
  have hb := fac_bd _ _ h
  obtain ⟨⟨h0, h1⟩, h2, h3⟩ := (facB_iff _ _).1 h
  have hf : fac rise heat = 10000000 + rise * (heat - 200) := rfl
  have a1 := Int.mul_le_mul_of_nonneg_left (show heat - 200 ≤ 400 by omega) h0
  have a2 := Int.mul_le_mul_of_nonneg_left (show -600 ≤ heat - 200 by omega) h0
  have b1 : rise * (heat - 200) ≤ 4000000 := by omega
  have b2 : -6000000 ≤ rise * (heat - 200) := by omega
  rw [hf]
  clear a1 a2 hf hb h
  go_enter Tryd.func26, Tryd.ntmps26
  go_wp2
  go_returns
  exact ⟨rfl, rfl⟩
theorem refFactor_any (rise heat : Int) (w : World) :
    Calls Tryd.prog 11 #[.int .i64 rise, .int .i64 heat] w fun e w' => e = .returned (.tuple #[.int .i64 (faQ rise heat), .int .i64 (faE rise heat)]) ∧ w = w' := by
  cases h : facB rise heat with
  | true =>
    have e1 : faQ rise heat = fac rise heat := by unfold faQ; rw [if_pos h]
    have e2 : faE rise heat = 0 := by unfold faE; rw [if_pos h]
    rw [e1, e2]
    obtain ⟨⟨h0, h1⟩, h2, h3⟩ := (facB_iff _ _).1 h
    have HF := Lib.hid (fun W => refFac_any rise heat W h)
    have HH := Lib.hid (fun W => refHeat_any heat W)
    rw [show heatB heat = true by simp [heatB]; omega] at HH
    generalize fac rise heat = F at *
    clear e1 e2 h
    go_enter Tryd.func11, Tryd.ntmps11
    go_wp2_with fail
    refine (HH.out _).mono ?_
    rintro e w1 ⟨rfl, rfl⟩
    go_wp2_with fail
    refine (HF.out _).mono ?_
    rintro e w1 ⟨rfl, rfl⟩
    go_wp2
    go_returns
    exact ⟨rfl, rfl⟩
  | false =>
    have e1 : faQ rise heat = 0 := by unfold faQ; rw [if_neg (by rw [h]; simp)]
    have e2 : faE rise heat = 2 := by unfold faE; rw [if_neg (by rw [h]; simp)]
    rw [e1, e2]
    have hn : rise < 0 ∨ (0 ≤ rise ∧ 10000 < rise) ∨ ((0 ≤ rise ∧ rise ≤ 10000) ∧ heatB heat = false) := by
      have h2 : ¬ ((0 ≤ rise ∧ rise ≤ 10000) ∧ -400 ≤ heat ∧ heat ≤ 600) := fun hc => by rw [(facB_iff _ _).2 hc] at h; cases h
      by_cases ha : 0 ≤ rise ∧ rise ≤ 10000
      · right; right
        refine ⟨ha, ?_⟩
        rw [Bool.eq_false_iff]
        intro hc
        simp [heatB] at hc
        omega
      · omega
    clear e1 e2 h
    rcases hn with hn | ⟨hn, hn2⟩ | ⟨⟨hn, hn2⟩, hn3⟩
    · go_enter Tryd.func11, Tryd.ntmps11
      go_wp2
      go_returns
      exact ⟨rfl, rfl⟩
    · go_enter Tryd.func11, Tryd.ntmps11
      go_wp2
      go_returns
      exact ⟨rfl, rfl⟩
    · have HH := Lib.hid (fun W => refHeat_any heat W)
      rw [hn3] at HH
      clear hn3
      go_enter Tryd.func11, Tryd.ntmps11
      go_wp2_with fail
      refine (HH.out _).mono ?_
      rintro e w1 ⟨rfl, rfl⟩
      go_wp2
      go_returns
      exact ⟨rfl, rfl⟩
theorem refReady_core (v rise heat rule F E R : Int) (ru am : Bool) (w : World)
    (H1 : Hid (∀ W, Calls Tryd.prog 35 #[.int .i64 rule] W fun e w' => e = .returned (.bool ru) ∧ W = w'))
    (H2 : Hid (∀ W, Calls Tryd.prog 11 #[.int .i64 rise, .int .i64 heat] W fun e w' => e = .returned (.tuple #[.int .i64 F, .int .i64 E]) ∧ W = w'))
    (H3 : Hid (∀ W, Calls Tryd.prog 40 #[.int .i64 v] W fun e w' => e = .returned (.bool am) ∧ W = w'))
    (h : (ru = false ∧ R = 1) ∨ (ru = true ∧ (E == 0) = false ∧ (E != 0) = true ∧ R = 2) ∨ (ru = true ∧ E = 0 ∧ am = false ∧ R = 2) ∨ (ru = true ∧ E = 0 ∧ am = true ∧ R = 0)) :
    Calls Tryd.prog 29 #[.int .i64 v, .int .i64 rise, .int .i64 heat, .int .i64 rule] w fun e w' => e = .returned (.int .i64 R) ∧ w = w' := by
  rcases h with ⟨rfl, rfl⟩ | ⟨rfl, e1, e2, rfl⟩ | ⟨rfl, rfl, rfl, rfl⟩ | ⟨rfl, rfl, rfl, rfl⟩
  · go_enter Tryd.func29, Tryd.ntmps29
    go_wp2_with fail
    refine (H1.out _).mono ?_
    rintro e w1 ⟨rfl, rfl⟩
    go_wp2
    go_returns
    exact ⟨rfl, rfl⟩
  · go_enter Tryd.func29, Tryd.ntmps29
    go_wp2_with fail
    refine (H1.out _).mono ?_
    rintro e w1 ⟨rfl, rfl⟩
    go_wp2_with fail
    refine (H2.out _).mono ?_
    rintro e w1 ⟨rfl, rfl⟩
    go_wp2
    go_returns
    exact ⟨rfl, rfl⟩
  all_goals
    go_enter Tryd.func29, Tryd.ntmps29
    go_wp2_with fail
    refine (H1.out _).mono ?_
    rintro e w1 ⟨rfl, rfl⟩
    go_wp2_with fail
    refine (H2.out _).mono ?_
    rintro e w1 ⟨rfl, rfl⟩
    go_wp2_with fail
    refine (H3.out _).mono ?_
    rintro e w1 ⟨rfl, rfl⟩
    go_wp2
    go_returns
    exact ⟨rfl, rfl⟩
theorem refReady_any (v rise heat rule : Int) (w : World) :
    Calls Tryd.prog 29 #[.int .i64 v, .int .i64 rise, .int .i64 heat, .int .i64 rule] w fun e w' => e = .returned (.int .i64 (rdyE v rise heat rule)) ∧ w = w' := by
  refine refReady_core v rise heat rule (faQ rise heat) (faE rise heat) _ (isRuleB rule) (isAm v) w (fun W => refIs_any rule W) (fun W => refFactor_any rise heat W) (fun W => R1.is_any v W) ?_
  unfold rdyE faE
  cases isRuleB rule with
  | false => exact .inl ⟨rfl, rfl⟩
  | true =>
    right
    cases facB rise heat with
    | false => exact .inl ⟨rfl, by decide, by decide, rfl⟩
    | true =>
      right
      cases isAm v with
      | false => exact .inl ⟨rfl, rfl, rfl, rfl⟩
      | true => exact .inr ⟨rfl, rfl, rfl, rfl⟩
theorem refAt_any (v rise heat rule : Int) (w : World) :
    Calls Tryd.prog 13 #[.int .i64 v, .int .i64 rise, .int .i64 heat, .int .i64 rule] w fun e w' => e = .returned (.tuple #[.int .i64 (atQ v rise heat rule), .int .i64 (atE v rise heat rule)]) ∧ Below w.heap.size w w' := by
  have HR := Lib.hid (fun W => refReady_any v rise heat rule W)
  by_cases h : rdyE v rise heat rule = 0
  · obtain ⟨_, hf, _⟩ := rdy_ok h
    have e1 : atQ v rise heat rule = prodQ v (fac rise heat) 10000000 rule := by unfold atQ; rw [if_pos h]
    have e2 : atE v rise heat rule = prodE v (fac rise heat) 10000000 rule := by unfold atE; rw [if_pos h]
    rw [e1, e2]
    rw [h] at HR
    have HF := Lib.hid (fun W => refFac_any rise heat W hf)
    have HP := Lib.hid (fun W => refProduct_any v (fac rise heat) 10000000 rule W)
    generalize prodQ v (fac rise heat) 10000000 rule = Q at *
    generalize prodE v (fac rise heat) 10000000 rule = E at *
    generalize fac rise heat = F at *
    clear e1 e2 h hf
    go_enter Tryd.func13, Tryd.ntmps13
    go_wp2_with fail
    refine (HR.out _).mono ?_
    rintro e w1 ⟨rfl, rfl⟩
    go_wp2_with fail
    refine (HF.out _).mono ?_
    rintro e w1 ⟨rfl, rfl⟩
    go_wp2_with fail
    refine (HP.out _).mono ?_
    rintro e w1 ⟨rfl, gg⟩
    have X1 := Lib.hid gg; clear gg
    go_wp2
    go_returns
    exact ⟨rfl, X1.out⟩
  · have e1 : atQ v rise heat rule = 0 := by unfold atQ; rw [if_neg h]
    have e2 : atE v rise heat rule = rdyE v rise heat rule := by unfold atE; rw [if_neg h]
    rw [e1, e2]
    have h1 : (rdyE v rise heat rule == 0) = false := by simpa using h
    have h2 : (rdyE v rise heat rule != 0) = true := by simpa using h
    generalize rdyE v rise heat rule = E at *
    clear e1 e2 h
    go_enter Tryd.func13, Tryd.ntmps13
    go_wp2_with fail
    refine (HR.out _).mono ?_
    rintro e w1 ⟨rfl, rfl⟩
    go_wp2
    go_returns
    exact ⟨rfl, Below.refl _ _⟩
theorem refTo_any (v rise heat rule : Int) (w : World) :
    Calls Tryd.prog 15 #[.int .i64 v, .int .i64 rise, .int .i64 heat, .int .i64 rule] w fun e w' => e = .returned (.tuple #[.int .i64 (toQ v rise heat rule), .int .i64 (toE v rise heat rule)]) ∧ Below w.heap.size w w' := by
  have HR := Lib.hid (fun W => refReady_any v rise heat rule W)
  by_cases h : rdyE v rise heat rule = 0
  · obtain ⟨_, hf, _⟩ := rdy_ok h
    have e1 : toQ v rise heat rule = prodQ v 10000000 (fac rise heat) rule := by unfold toQ; rw [if_pos h]
    have e2 : toE v rise heat rule = prodE v 10000000 (fac rise heat) rule := by unfold toE; rw [if_pos h]
    rw [e1, e2]
    rw [h] at HR
    have HF := Lib.hid (fun W => refFac_any rise heat W hf)
    have HP := Lib.hid (fun W => refProduct_any v 10000000 (fac rise heat) rule W)
    generalize prodQ v 10000000 (fac rise heat) rule = Q at *
    generalize prodE v 10000000 (fac rise heat) rule = E at *
    generalize fac rise heat = F at *
    clear e1 e2 h hf
    go_enter Tryd.func15, Tryd.ntmps15
    go_wp2_with fail
    refine (HR.out _).mono ?_
    rintro e w1 ⟨rfl, rfl⟩
    go_wp2_with fail
    refine (HF.out _).mono ?_
    rintro e w1 ⟨rfl, rfl⟩
    go_wp2_with fail
    refine (HP.out _).mono ?_
    rintro e w1 ⟨rfl, gg⟩
    have X1 := Lib.hid gg; clear gg
    go_wp2
    go_returns
    exact ⟨rfl, X1.out⟩
  · have e1 : toQ v rise heat rule = 0 := by unfold toQ; rw [if_neg h]
    have e2 : toE v rise heat rule = rdyE v rise heat rule := by unfold toE; rw [if_neg h]
    rw [e1, e2]
    have h1 : (rdyE v rise heat rule == 0) = false := by simpa using h
    have h2 : (rdyE v rise heat rule != 0) = true := by simpa using h
    generalize rdyE v rise heat rule = E at *
    clear e1 e2 h
    go_enter Tryd.func15, Tryd.ntmps15
    go_wp2_with fail
    refine (HR.out _).mono ?_
    rintro e w1 ⟨rfl, rfl⟩
    go_wp2
    go_returns
    exact ⟨rfl, Below.refl _ _⟩
end Go.Proofs.YtigmpbipbkgnfaaDoor
