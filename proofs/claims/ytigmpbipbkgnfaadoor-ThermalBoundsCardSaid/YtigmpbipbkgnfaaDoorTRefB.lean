/- The reference of layer 5: Between. -/
import Derived.Test.YtigmpbipbkgnfaaDoorTRef
import Derived.Test.YtigmpbipbkgnfaaDoorTwo
namespace Go.Proofs.YtigmpbipbkgnfaaDoor
open Go.RowKit

set_option maxHeartbeats 4000000 in
theorem refBetween_core (vl vh hl hh rise R1 R2 Q1 E1 Q2 E2 A B E : Int) (w : World)
    (HR1 : Hid (∀ W, Calls Tryd.prog 29 #[.int .i64 vl, .int .i64 rise, .int .i64 hl, .int .i64 2] W fun e w' => e = .returned (.int .i64 R1) ∧ W = w'))
    (HR2 : Hid (∀ W, Calls Tryd.prog 29 #[.int .i64 vh, .int .i64 rise, .int .i64 hh, .int .i64 2] W fun e w' => e = .returned (.int .i64 R2) ∧ W = w'))
    (HT1 : Hid (∀ W, Calls Tryd.prog 15 #[.int .i64 vl, .int .i64 rise, .int .i64 hh, .int .i64 1] W fun e w' => e = .returned (.tuple #[.int .i64 Q1, .int .i64 E1]) ∧ Below W.heap.size W w'))
    (HT2 : Hid (∀ W, Calls Tryd.prog 15 #[.int .i64 vh, .int .i64 rise, .int .i64 hl, .int .i64 2] W fun e w' => e = .returned (.tuple #[.int .i64 Q2, .int .i64 E2]) ∧ Below W.heap.size W w'))
    (h : (vh < vl ∧ A = 0 ∧ B = 0 ∧ E = 1) ∨ (vl ≤ vh ∧ hh < hl ∧ A = 0 ∧ B = 0 ∧ E = 1) ∨ (vl ≤ vh ∧ hl ≤ hh ∧ R1 ≠ 0 ∧ A = 0 ∧ B = 0 ∧ E = 2) ∨ (vl ≤ vh ∧ hl ≤ hh ∧ R1 = 0 ∧ R2 ≠ 0 ∧ A = 0 ∧ B = 0 ∧ E = 2) ∨
      (vl ≤ vh ∧ hl ≤ hh ∧ R1 = 0 ∧ R2 = 0 ∧ E1 ≠ 0 ∧ A = 0 ∧ B = 0 ∧ E = 15) ∨ (vl ≤ vh ∧ hl ≤ hh ∧ R1 = 0 ∧ R2 = 0 ∧ E1 = 0 ∧ E2 ≠ 0 ∧ A = 0 ∧ B = 0 ∧ E = 15) ∨ (vl ≤ vh ∧ hl ≤ hh ∧ R1 = 0 ∧ R2 = 0 ∧ E1 = 0 ∧ E2 = 0 ∧ A = Q1 ∧ B = Q2 ∧ E = 0)) :
    Calls Tryd.prog 17 #[.agg #[.int .i64 vl, .int .i64 vh], .agg #[.int .i64 hl, .int .i64 hh], .int .i64 rise] w fun e w' => e = .returned (.tuple #[.agg #[.int .i64 A, .int .i64 B], .int .i64 E]) ∧ Below w.heap.size w w' := by
  have TV := Lib.hid (((Two.new w (.int .i64 vl) (.int .i64 vh) 29).alloc (.cells #[.int .i64 hl, .int .i64 hh] 29)).alloc (.cells #[.int .i64 0, .int .i64 0] 29))
  have TH := Lib.hid ((Two.new (w.alloc (.cells #[.int .i64 vl, .int .i64 vh] 29)) (.int .i64 hl) (.int .i64 hh) 29).alloc (.cells #[.int .i64 0, .int .i64 0] 29))
  have TZ := Lib.hid (Two.new ((w.alloc (.cells #[.int .i64 vl, .int .i64 vh] 29)).alloc (.cells #[.int .i64 hl, .int .i64 hh] 29)) (.int .i64 0) (.int .i64 0) 29)
  simp only [World.size_alloc] at TH TZ
  rcases h with ⟨h, rfl, rfl, rfl⟩ | ⟨h, h2, rfl, rfl, rfl⟩ | ⟨h, h2, h3, rfl, rfl, rfl⟩ | ⟨h, h2, rfl, h3, rfl, rfl, rfl⟩ | ⟨h, h2, rfl, rfl, h3, rfl, rfl, rfl⟩ | ⟨h, h2, rfl, rfl, rfl, h3, rfl, rfl, rfl⟩ | ⟨h, h2, rfl, rfl, rfl, rfl, rfl, rfl, rfl⟩
  · go_enter Tryd.func17, Tryd.ntmps17
    go_wp2
    refine bodyPost_ret (v := .tuple #[.agg #[.int .i64 0, .int .i64 0], .int .i64 1]) (by simp [results, Tryd.results17, go_sem]) rfl ?_
    exact ⟨rfl, bel_alloc (bel_alloc (bel_alloc (Below.refl _ _)))⟩
  · go_enter Tryd.func17, Tryd.ntmps17
    go_wp2
    refine bodyPost_ret (v := .tuple #[.agg #[.int .i64 0, .int .i64 0], .int .i64 1]) (by simp [results, Tryd.results17, go_sem]) rfl ?_
    exact ⟨rfl, bel_alloc (bel_alloc (bel_alloc (Below.refl _ _)))⟩
  · have e1 : (R1 == 0) = false := by simpa using h3
    have e2 : (R1 != 0) = true := by simpa using h3
    clear h3
    go_enter Tryd.func17, Tryd.ntmps17
    go_wp2_with fail
    refine (HR1.out _).mono ?_
    rintro e w1 ⟨rfl, hw⟩
    subst hw
    go_wp2
    refine bodyPost_ret (v := .tuple #[.agg #[.int .i64 0, .int .i64 0], .int .i64 2]) (by simp [results, Tryd.results17, go_sem]) rfl ?_
    exact ⟨rfl, bel_alloc (bel_alloc (bel_alloc (Below.refl _ _)))⟩
  · have e1 : (R2 == 0) = false := by simpa using h3
    have e2 : (R2 != 0) = true := by simpa using h3
    clear h3
    go_enter Tryd.func17, Tryd.ntmps17
    go_wp2_with fail
    refine (HR1.out _).mono ?_
    rintro e w1 ⟨rfl, hw⟩
    subst hw
    go_wp2_with fail
    refine (HR2.out _).mono ?_
    rintro e w1 ⟨rfl, hw⟩
    subst hw
    go_wp2
    refine bodyPost_ret (v := .tuple #[.agg #[.int .i64 0, .int .i64 0], .int .i64 2]) (by simp [results, Tryd.results17, go_sem]) rfl ?_
    exact ⟨rfl, bel_alloc (bel_alloc (bel_alloc (Below.refl _ _)))⟩
  all_goals
    try
      (have e1 : (E1 == 0) = false := by simpa using h3
       have e2 : (E1 != 0) = true := by simpa using h3
       clear h3)
    try
      (have e1 : (E2 == 0) = false := by simpa using h3
       have e2 : (E2 != 0) = true := by simpa using h3
       clear h3)
    go_enter Tryd.func17, Tryd.ntmps17
    go_wp2_with fail
    refine (HR1.out _).mono ?_
    rintro e w1 ⟨rfl, hw⟩
    subst hw
    go_wp2_with fail
    refine (HR2.out _).mono ?_
    rintro e w1 ⟨rfl, hw⟩
    subst hw
    go_wp2_with fail
    refine (HT1.out _).mono ?_
    rintro e w2 ⟨rfl, gg⟩
    replace TV := Lib.hid (TV.out.below gg)
    replace TH := Lib.hid (TH.out.below gg)
    replace TZ := Lib.hid (TZ.out.below gg)
    have X1 := Lib.hid (bel_alloc (bel_alloc (bel_alloc gg))); clear gg
    obtain ⟨a0, a1, _, _, _⟩ := TV.out
    obtain ⟨b0, b1, _, _, _⟩ := TH.out
    go_wp2_with fail
    refine (HT2.out _).mono ?_
    rintro e w3 ⟨rfl, gg⟩
    replace TZ := Lib.hid (TZ.out.below gg)
    replace X1 := Lib.hid (bel_trans X1.out gg); clear gg a0 a1 b0 b1 TV TH
    obtain ⟨r0, r1, f0, f1, _⟩ := TZ.out
    go_wp2
  · obtain ⟨t0, t1⟩ := two_read _ (w.heap.size + 1 + 1) (.int .i64 0) (.int .i64 0) (by assumption) (by assumption)
    refine bodyPost_ret (v := .tuple #[.agg #[.int .i64 0, .int .i64 0], .int .i64 15]) (by simp [results, Tryd.results17, go_sem, t0, t1]) rfl ?_
    exact ⟨rfl, (X1.out.setCell (by simp; omega) _).setCell (by simp; omega) _⟩
  · obtain ⟨t0, t1⟩ := two_read _ (w.heap.size + 1 + 1) (.int .i64 0) (.int .i64 0) (by assumption) (by assumption)
    refine bodyPost_ret (v := .tuple #[.agg #[.int .i64 0, .int .i64 0], .int .i64 15]) (by simp [results, Tryd.results17, go_sem, t0, t1]) rfl ?_
    exact ⟨rfl, (X1.out.setCell (by simp; omega) _).setCell (by simp; omega) _⟩
  · obtain ⟨t0, t1⟩ := two_read _ (w.heap.size + 1 + 1) (.int .i64 A) (.int .i64 B) (by assumption) (by assumption)
    refine bodyPost_ret (v := .tuple #[.agg #[.int .i64 A, .int .i64 B], .int .i64 0]) (by simp [results, Tryd.results17, go_sem, t0, t1]) rfl ?_
    exact ⟨rfl, (X1.out.setCell (by simp; omega) _).setCell (by simp; omega) _⟩
theorem refBetween_any (vl vh hl hh rise : Int) (w : World) :
    Calls Tryd.prog 17 #[.agg #[.int .i64 vl, .int .i64 vh], .agg #[.int .i64 hl, .int .i64 hh], .int .i64 rise] w fun e w' => e = .returned (.tuple #[.agg #[.int .i64 (btL vl vh hl hh rise), .int .i64 (btH vl vh hl hh rise)], .int .i64 (btE vl vh hl hh rise)]) ∧ Below w.heap.size w w' := by
  refine refBetween_core vl vh hl hh rise (rdyE vl rise hl 2) (rdyE vh rise hh 2) (toQ vl rise hh 1) (toE vl rise hh 1) (toQ vh rise hl 2) (toE vh rise hl 2) _ _ _ w (fun W => refReady_any vl rise hl 2 W) (fun W => refReady_any vh rise hh 2 W) (fun W => refTo_any vl rise hh 1 W) (fun W => refTo_any vh rise hl 2 W) ?_
  have hno : ∀ E, btE vl vh hl hh rise = E → E ≠ 0 → btL vl vh hl hh rise = 0 ∧ btH vl vh hl hh rise = 0 ∧ btE vl vh hl hh rise = E := by
    intro E h1 h2
    unfold btL btH
    rw [h1, if_neg h2, if_neg h2]
    exact ⟨rfl, rfl, rfl⟩
  by_cases g1 : vh < vl
  · exact .inl ⟨g1, hno 1 (by unfold btE; rw [if_pos (.inl g1)]) (by omega)⟩
  · right
    by_cases g2 : hh < hl
    · exact .inl ⟨by omega, g2, hno 1 (by unfold btE; rw [if_pos (.inr g2)]) (by omega)⟩
    · right
      have n1 : ¬ (vh < vl ∨ hh < hl) := by omega
      by_cases g3 : rdyE vl rise hl 2 = 0
      · right
        by_cases g4 : rdyE vh rise hh 2 = 0
        · right
          have n2 : ¬ (rdyE vl rise hl 2 ≠ 0 ∨ rdyE vh rise hh 2 ≠ 0) := by omega
          by_cases g5 : toE vl rise hh 1 = 0
          · right
            by_cases g6 : toE vh rise hl 2 = 0
            · right
              have n3 : ¬ (toE vl rise hh 1 ≠ 0 ∨ toE vh rise hl 2 ≠ 0) := by omega
              have e : btE vl vh hl hh rise = 0 := by unfold btE; rw [if_neg n1, if_neg n2, if_neg n3]
              have := bt_zero e
              exact ⟨by omega, by omega, g3, g4, g5, g6, this.2.2.2.2.1, this.2.2.2.2.2, e⟩
            · exact .inl ⟨by omega, by omega, g3, g4, g5, g6, hno 15 (by unfold btE; rw [if_neg n1, if_neg n2, if_pos (.inr g6)]) (by omega)⟩
          · exact .inl ⟨by omega, by omega, g3, g4, g5, hno 15 (by unfold btE; rw [if_neg n1, if_neg n2, if_pos (.inl g5)]) (by omega)⟩
        · exact .inl ⟨by omega, by omega, g3, g4, hno 2 (by unfold btE; rw [if_neg n1, if_pos (.inr g4)]) (by omega)⟩
      · exact .inl ⟨by omega, by omega, g3, hno 2 (by unfold btE; rw [if_neg n1, if_pos (.inl g3)]) (by omega)⟩
end Go.Proofs.YtigmpbipbkgnfaaDoor
