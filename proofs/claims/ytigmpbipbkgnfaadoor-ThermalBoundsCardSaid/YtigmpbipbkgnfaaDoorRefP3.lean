/- The reference of layer 1: OfChecked, Up and Compare return what the program's functions return. -/
import Derived.Test.YtigmpbipbkgnfaaDoorRefP2
namespace Go.Proofs.YtigmpbipbkgnfaaDoor.R1
open Go.RowKit

theorem ret_three {k l m : IntKind} {a b c d x y : Int} (h : a = b) (g : c = d) (i : x = y) : Ending.returned (.tuple #[.int k a, .int l c, .int m x]) = .returned (.tuple #[.int k b, .int l d, .int m y]) := by rw [h, g, i]

theorem ofChecked_bad (a b c E : Int) (w : World) (h : Hid (threeE a b c = E)) (hE : (E != 0) = true) :
    Calls Tryd.prog 41 #[.int .i64 a, .int .i64 b, .int .i64 c] w fun e w' => e = .returned (.tuple #[.int .i64 0, .int .i64 0, .int .i64 E]) ∧ Below w.heap.size w w' := by
  go_enter Tryd.func41, Tryd.ntmps41
  go_wp2_with fail
  refine (three_any _ _ _ _).mono ?_
  rw [h.out]
  rintro e w' ⟨rfl, rfl⟩
  go_wp2
  go_returns
  exact ⟨rfl, Below.refl _ _⟩

theorem ofChecked_ok (a b c Q R : Int) (w : World) (h : Hid (threeE a b c = 0))
    (ho : Hid (Calls Tryd.prog 50 #[.int .i64 a, .int .i64 b, .int .i64 c, .int .i64 128849018880000] w fun e w' => e = .returned (.tuple #[.int .i64 Q, .int .i64 R, .bool true]) ∧ Below w.heap.size w w')) :
    Calls Tryd.prog 41 #[.int .i64 a, .int .i64 b, .int .i64 c] w fun e w' => e = .returned (.tuple #[.int .i64 Q, .int .i64 R, .int .i64 0]) ∧ Below w.heap.size w w' := by
  go_enter Tryd.func41, Tryd.ntmps41
  go_wp2_with fail
  refine (three_any _ _ _ _).mono ?_
  rw [h.out]
  rintro e w' ⟨rfl, rfl⟩
  go_wp2_with fail
  refine ho.out.mono ?_
  rintro e w' ⟨rfl, hb⟩
  go_wp2
  go_returns
  exact ⟨rfl, hb⟩

theorem ofChecked_big (a b c : Int) (w : World) (h : Hid (threeE a b c = 0))
    (ho : Hid (Calls Tryd.prog 50 #[.int .i64 a, .int .i64 b, .int .i64 c, .int .i64 128849018880000] w fun e w' => e = .returned (.tuple #[.int .i64 0, .int .i64 0, .bool false]) ∧ Below w.heap.size w w')) :
    Calls Tryd.prog 41 #[.int .i64 a, .int .i64 b, .int .i64 c] w fun e w' => e = .returned (.tuple #[.int .i64 0, .int .i64 0, .int .i64 15]) ∧ Below w.heap.size w w' := by
  go_enter Tryd.func41, Tryd.ntmps41
  go_wp2_with fail
  refine (three_any _ _ _ _).mono ?_
  rw [h.out]
  rintro e w' ⟨rfl, rfl⟩
  go_wp2_with fail
  refine ho.out.mono ?_
  rintro e w' ⟨rfl, hb⟩
  go_wp2
  go_returns
  exact ⟨rfl, hb⟩

theorem ofChecked_any (a b c : Int) (w : World) :
    Calls Tryd.prog 41 #[.int .i64 a, .int .i64 b, .int .i64 c] w fun e w' => e = .returned (.tuple #[.int .i64 (ofQ a b c), .int .i64 (ofR a b c), .int .i64 (ofE a b c)]) ∧ Below w.heap.size w w' := by
  unfold ofQ ofR
  cases h : (isAm a && isAm b && isAm c) with
  | false =>
    have e : ofE a b c = 2 := by unfold ofE; rw [h]; rfl
    have t : threeE a b c = 2 := by unfold threeE; rw [h]; rfl
    rw [e]; exact ofChecked_bad a b c 2 w t rfl
  | true =>
    by_cases hc : c = 0
    · subst hc
      have e : ofE a b 0 = 16 := by unfold ofE; rw [h]; rfl
      have t : threeE a b 0 = 16 := by unfold threeE; rw [h]; rfl
      rw [e]; exact ofChecked_bad a b 0 16 w t rfl
    · have h' := h
      simp only [Bool.and_eq_true, isAm_iff] at h'
      have t : threeE a b c = 0 := by unfold threeE; rw [h, if_pos rfl, if_neg hc]
      by_cases hq : a * b / c ≤ 128849018880000
      · have e : ofE a b c = 0 := by unfold ofE; rw [h, if_pos rfl, if_neg hc, if_pos hq]
        rw [e]; exact ofChecked_ok a b c _ _ w t (refOf_ok a b c _ _ w h (by omega) rfl rfl hq)
      · have e : ofE a b c = 15 := by unfold ofE; rw [h, if_pos rfl, if_neg hc, if_neg hq]
        rw [e]; exact ofChecked_big a b c w t (refOf_big a b c w h (by omega) (by omega))

end Go.Proofs.YtigmpbipbkgnfaaDoor.R1
