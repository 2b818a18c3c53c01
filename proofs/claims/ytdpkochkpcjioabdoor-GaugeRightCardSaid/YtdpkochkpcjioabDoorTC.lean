/- Package thermal: factors and single corrections. -/
import Derived.Test.YtdpkochkpcjioabDoorTW
import Derived.Test.YtdpkochkpcjioabDoorTS
import Derived.Lib.Hide
namespace Go.Proofs.YtdpkochkpcjioabDoor
open Go.RowKit

theorem thWord_core (rule : Int) (l : List UInt8) (B : Bool) (w : World)
    (HW : Hid (∀ W, Below w.heap.size w W → Calls Tryd.prog 107 #[.int .i64 rule] W fun e w' => e = .returned (str l) ∧ Below W.heap.size W w'))
    (h : (l = [] ∧ B = false) ∨ (∃ x r, l = x :: r ∧ B = true)) :
    Calls Tryd.prog 97 #[.int .i64 rule] w fun e w' => e = .returned (.bool B) ∧ Below w.heap.size w w' := by
  rcases h with ⟨rfl, rfl⟩ | ⟨x, r, rfl, rfl⟩
  all_goals
    go_enter Tryd.func97, Tryd.ntmps97
    go_wp2_with fail
    refine (HW.out _ (Below.refl _ _)).mono ?_
    rintro e w1 ⟨rfl, gg⟩
    have X1 := Lib.hid gg; clear gg
    go_wp2
    go_returns
    exact ⟨rfl, X1.out⟩
theorem thRule_any (rule : Int) (w : World) (hw : WordsIs w) :
    Calls Tryd.prog 97 #[.int .i64 rule] w fun e w' => e = .returned (.bool (isRuleB rule)) ∧ Below w.heap.size w w' := by
  refine thWord_core rule (wordOf rule) _ w (fun W h => word_any rule W (hw.below h)) ?_
  unfold wordOf
  cases hr : isRuleB rule with
  | false => exact .inl ⟨rfl, rfl⟩
  | true =>
    right
    have h := (isRuleB_iff rule).1 hr
    have h4 : rule = 1 ∨ rule = 2 ∨ rule = 3 ∨ rule = 4 := by omega
    rcases h4 with rfl | rfl | rfl | rfl
    · exact ⟨_, _, rfl, rfl⟩
    · exact ⟨_, _, rfl, rfl⟩
    · exact ⟨_, _, rfl, rfl⟩
    · exact ⟨_, _, rfl, rfl⟩
theorem thHeat_any (t : Int) (w : World) :
    Calls Tryd.prog 108 #[.int .i64 t] w fun e w' => e = .returned (.bool (heatB t)) ∧ w = w' := by
  go_enter Tryd.func108, Tryd.ntmps108
  go_wp2
  all_goals go_ret
  all_goals (refine ⟨ret_bool ?_, rfl⟩; unfold heatB; grind)
theorem thFactor_any (rise heat : Int) (w : World) :
    Calls Tryd.prog 98 #[.int .i64 rise, .int .i64 heat] w fun e w' => e = .returned (.tuple #[.int .i64 (faQ rise heat), .int .i64 (faE rise heat)]) ∧ w = w' := by
  have HH := Lib.hid (fun W => thHeat_any heat W)
  cases h : facB rise heat with
  | true =>
    have e1 : faQ rise heat = 10000000 + rise * (heat - 200) := by unfold faQ fac; rw [if_pos h]
    have e2 : faE rise heat = 0 := by unfold faE; rw [if_pos h]
    rw [e1, e2]
    obtain ⟨⟨h0, h1⟩, h2, h3⟩ := (facB_iff _ _).1 h
    rw [show heatB heat = true by simp [heatB]; omega] at HH
    have a1 := Int.mul_le_mul_of_nonneg_left (show heat - 200 ≤ 400 by omega) h0
    have a2 := Int.mul_le_mul_of_nonneg_left (show -600 ≤ heat - 200 by omega) h0
    have b1 : rise * (heat - 200) ≤ 4000000 := by omega
    have b2 : -6000000 ≤ rise * (heat - 200) := by omega
    clear e1 e2 h a1 a2
    go_enter Tryd.func98, Tryd.ntmps98
    go_wp2_with fail
    refine (HH.out _).mono ?_
    rintro e w1 ⟨rfl, rfl⟩
    go_wp2
    go_returns
    exact ⟨rfl, rfl⟩
  | false =>
    have e1 : faQ rise heat = 0 := by unfold faQ; rw [if_neg (by rw [h]; simp)]
    have e2 : faE rise heat = 2 := by unfold faE; rw [if_neg (by rw [h]; simp)]
    rw [e1, e2]
    have hn : rise < 0 ∨ (0 ≤ rise ∧ 10000 < rise) ∨ ((0 ≤ rise ∧ rise ≤ 10000) ∧ heatB heat = false) := by
      have h2 : ¬ ((0 ≤ rise ∧ rise ≤ 10000) ∧ -400 ≤ heat ∧ heat ≤ 600) := fun hc => by rw [(facB_iff _ _).2 hc] at h; cases h
      by_cases ha : 0 ≤ rise ∧ rise ≤ 10000
      · right; right
        refine ⟨ha, ?_⟩
        rw [Bool.eq_false_iff]
        intro hc
        simp [heatB] at hc
        omega
      · omega
    clear e1 e2 h
    rcases hn with hn | ⟨hn, hn2⟩ | ⟨⟨hn, hn2⟩, hn3⟩
    · go_enter Tryd.func98, Tryd.ntmps98
      go_wp2
      go_returns
      exact ⟨rfl, rfl⟩
    · go_enter Tryd.func98, Tryd.ntmps98
      go_wp2
      go_returns
      exact ⟨rfl, rfl⟩
    · rw [hn3] at HH
      clear hn3
      go_enter Tryd.func98, Tryd.ntmps98
      go_wp2_with fail
      refine (HH.out _).mono ?_
      rintro e w1 ⟨rfl, rfl⟩
      go_wp2
      go_returns
      exact ⟨rfl, rfl⟩
/-- what ruled returns -/
def ruE (rise heat rule : Int) : Int := if isRuleB rule = true then faE rise heat else 1
def ruQ (rise heat rule : Int) : Int := if isRuleB rule = true then faQ rise heat else 0
theorem thRuled_any (rise heat rule : Int) (w : World) (hw : WordsIs w) :
    Calls Tryd.prog 89 #[.int .i64 rise, .int .i64 heat, .int .i64 rule] w fun e w' => e = .returned (.tuple #[.int .i64 (ruQ rise heat rule), .int .i64 (ruE rise heat rule)]) ∧ Below w.heap.size w w' := by
  have HR := Lib.hid (thRule_any rule w hw)
  have HF := Lib.hid (fun W => thFactor_any rise heat W)
  unfold ruQ ruE
  cases hr : isRuleB rule with
  | false =>
    rw [if_neg (by simp), if_neg (by simp)]
    rw [hr] at HR
    clear hw hr
    go_enter Tryd.func89, Tryd.ntmps89
    go_wp2_with fail
    refine HR.out.mono ?_
    rintro e w1 ⟨rfl, gg⟩
    have X1 := Lib.hid gg; clear gg
    go_wp2
    go_returns
    exact ⟨rfl, X1.out⟩
  | true =>
    rw [if_pos rfl, if_pos rfl]
    rw [hr] at HR
    clear hw hr
    generalize faQ rise heat = Q at *
    generalize faE rise heat = E at *
    go_enter Tryd.func89, Tryd.ntmps89
    go_wp2_with fail
    refine HR.out.mono ?_
    rintro e w1 ⟨rfl, gg⟩
    have X1 := Lib.hid gg; clear gg
    go_wp2_with fail
    refine (HF.out _).mono ?_
    rintro e w2 ⟨rfl, rfl⟩
    go_wp2
    go_returns
    exact ⟨rfl, X1.out⟩

/-- a product whose first factor is no amount -/
theorem prod_am (v b c rule : Int) (hr : isRuleB rule = true) (hv : isAm v = false) : prodE v b c rule = 2 ∧ prodQ v b c rule = 0 ∧ prodE v c b rule = 2 ∧ prodQ v c b rule = 0 := by
  have h1 : ∀ x y, ofE v x y = 2 := fun x y => by unfold ofE; rw [hv]; rfl
  have h2 : ∀ x y, prodE v x y rule = 2 := fun x y => by unfold prodE; rw [hr, if_pos rfl, h1, if_neg (by omega)]
  unfold prodQ
  rw [h2, h2]
  exact ⟨rfl, rfl, rfl, rfl⟩
theorem at_ruled (v rise heat rule : Int) :
    (ruE rise heat rule ≠ 0 ∧ atE v rise heat rule = ruE rise heat rule ∧ atQ v rise heat rule = 0 ∧ toE v rise heat rule = ruE rise heat rule ∧ toQ v rise heat rule = 0) ∨
    (ruE rise heat rule = 0 ∧ ruQ rise heat rule = fac rise heat ∧ atE v rise heat rule = prodE v (fac rise heat) 10000000 rule ∧ atQ v rise heat rule = prodQ v (fac rise heat) 10000000 rule ∧ toE v rise heat rule = prodE v 10000000 (fac rise heat) rule ∧ toQ v rise heat rule = prodQ v 10000000 (fac rise heat) rule) := by
  have hd : rdyE v rise heat rule = if isRuleB rule = true then (if facB rise heat = true ∧ isAm v = true then 0 else 2) else 1 := rfl
  unfold ruE ruQ faE faQ atE atQ toE toQ
  cases hr : isRuleB rule with
  | false =>
    rw [hr, if_neg (by simp)] at hd
    left
    rw [hd]
    exact ⟨by simp, by simp, by simp, by simp, by simp⟩
  | true =>
    rw [hr, if_pos rfl] at hd
    cases hf : facB rise heat with
    | false =>
      rw [hf, if_neg (by simp)] at hd
      left
      rw [hd]
      exact ⟨by simp, by simp, by simp, by simp, by simp⟩
    | true =>
      rw [hf] at hd
      right
      cases hv : isAm v with
      | false =>
        rw [hv, if_neg (by simp)] at hd
        obtain ⟨p1, p2, p3, p4⟩ := prod_am v (fac rise heat) 10000000 rule hr hv
        rw [hd, p1, p2, p3, p4]
        exact ⟨by simp, by simp, by simp, by simp, by simp, by simp⟩
      | true =>
        rw [hv, if_pos (by simp)] at hd
        rw [hd]
        exact ⟨by simp, by simp, by simp, by simp, by simp, by simp⟩

theorem thTo_any (v rise heat rule : Int) (w : World) (hw : WordsIs w) :
    Calls Tryd.prog 74 #[.int .i64 v, .int .i64 rise, .int .i64 heat, .int .i64 rule] w fun e w' => e = .returned (.tuple #[.int .i64 (toQ v rise heat rule), .int .i64 (toE v rise heat rule)]) ∧ Below w.heap.size w w' := by
  have HR := Lib.hid (thRuled_any rise heat rule w hw)
  have HP := Lib.hid (fun W => product_any v 10000000 (fac rise heat) rule W)
  rcases at_ruled v rise heat rule with ⟨h, _, _, e1, e2⟩ | ⟨h, h2, _, _, e1, e2⟩
  · rw [e1, e2]
    have h1 : (ruE rise heat rule == 0) = false := by simpa using h
    have h2 : (ruE rise heat rule != 0) = true := by simpa using h
    generalize ruE rise heat rule = E at *
    clear e1 e2 h hw
    go_enter Tryd.func74, Tryd.ntmps74
    go_wp2_with fail
    refine HR.out.mono ?_
    rintro e w1 ⟨rfl, gg⟩
    have X1 := Lib.hid gg; clear gg
    go_wp2
    go_returns
    exact ⟨rfl, X1.out⟩
  · rw [e1, e2]
    rw [h, h2] at HR
    generalize prodQ v 10000000 (fac rise heat) rule = Q at *
    generalize prodE v 10000000 (fac rise heat) rule = E at *
    generalize fac rise heat = F at *
    clear e1 e2 h h2 hw
    go_enter Tryd.func74, Tryd.ntmps74
    go_wp2_with fail
    refine HR.out.mono ?_
    rintro e w1 ⟨rfl, gg⟩
    have X1 := Lib.hid gg; clear gg
    go_wp2_with fail
    refine (HP.out _).mono ?_
    rintro e w2 ⟨rfl, gg⟩
    replace X1 := Lib.hid (bel_trans X1.out gg); clear gg
    go_wp2
    go_returns
    exact ⟨rfl, X1.out⟩
end Go.Proofs.YtdpkochkpcjioabDoor

