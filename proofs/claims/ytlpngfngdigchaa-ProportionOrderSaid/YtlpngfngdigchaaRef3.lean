/- The reference of layer 1: OfChecked, Up and Compare return what the program's functions return. -/
import Derived.Test.YtlpngfngdigchaaRef2
namespace Go.Proofs.Ytlpngfngdigchaa
open Go.RowKit

theorem ret_three {k l m : IntKind} {a b c d x y : Int} (h : a = b) (g : c = d) (i : x = y) : Ending.returned (.tuple #[.int k a, .int l c, .int m x]) = .returned (.tuple #[.int k b, .int l d, .int m y]) := by rw [h, g, i]

theorem ofChecked_bad (a b c E : Int) (w : World) (h : Hid (threeE a b c = E)) (hE : (E != 0) = true) :
    Calls Try.prog 10 #[.int .i64 a, .int .i64 b, .int .i64 c] w fun e w' => e = .returned (.tuple #[.int .i64 0, .int .i64 0, .int .i64 E]) ∧ Below w.heap.size w w' := by
  go_enter Try.func10, Try.ntmps10
  go_wp2_with fail
  refine (three_any _ _ _ _).mono ?_
  rw [h.out]
  rintro e w' ⟨rfl, rfl⟩
  go_wp2
  go_returns
  exact ⟨rfl, Below.refl _ _⟩

theorem ofChecked_ok (a b c Q R : Int) (w : World) (h : Hid (threeE a b c = 0))
    (ho : Hid (Calls Try.prog 29 #[.int .i64 a, .int .i64 b, .int .i64 c, .int .i64 128849018880000] w fun e w' => e = .returned (.tuple #[.int .i64 Q, .int .i64 R, .bool true]) ∧ Below w.heap.size w w')) :
    Calls Try.prog 10 #[.int .i64 a, .int .i64 b, .int .i64 c] w fun e w' => e = .returned (.tuple #[.int .i64 Q, .int .i64 R, .int .i64 0]) ∧ Below w.heap.size w w' := by
  go_enter Try.func10, Try.ntmps10
  go_wp2_with fail
  refine (three_any _ _ _ _).mono ?_
  rw [h.out]
  rintro e w' ⟨rfl, rfl⟩
  go_wp2_with fail
  refine ho.out.mono ?_
  rintro e w' ⟨rfl, hb⟩
  go_wp2
  go_returns
  exact ⟨rfl, hb⟩

theorem ofChecked_big (a b c : Int) (w : World) (h : Hid (threeE a b c = 0))
    (ho : Hid (Calls Try.prog 29 #[.int .i64 a, .int .i64 b, .int .i64 c, .int .i64 128849018880000] w fun e w' => e = .returned (.tuple #[.int .i64 0, .int .i64 0, .bool false]) ∧ Below w.heap.size w w')) :
    Calls Try.prog 10 #[.int .i64 a, .int .i64 b, .int .i64 c] w fun e w' => e = .returned (.tuple #[.int .i64 0, .int .i64 0, .int .i64 15]) ∧ Below w.heap.size w w' := by
  go_enter Try.func10, Try.ntmps10
  go_wp2_with fail
  refine (three_any _ _ _ _).mono ?_
  rw [h.out]
  rintro e w' ⟨rfl, rfl⟩
  go_wp2_with fail
  refine ho.out.mono ?_
  rintro e w' ⟨rfl, hb⟩
  go_wp2
  go_returns
  exact ⟨rfl, hb⟩

theorem ofChecked_any (a b c : Int) (w : World) :
    Calls Try.prog 10 #[.int .i64 a, .int .i64 b, .int .i64 c] w fun e w' => e = .returned (.tuple #[.int .i64 (ofQ a b c), .int .i64 (ofR a b c), .int .i64 (ofE a b c)]) ∧ Below w.heap.size w w' := by
  unfold ofQ ofR
  cases h : (isAm a && isAm b && isAm c) with
  | false =>
    have e : ofE a b c = 2 := by unfold ofE; rw [h]; rfl
    have t : threeE a b c = 2 := by unfold threeE; rw [h]; rfl
    rw [e]; exact ofChecked_bad a b c 2 w t rfl
  | true =>
    by_cases hc : c = 0
    · subst hc
      have e : ofE a b 0 = 16 := by unfold ofE; rw [h]; rfl
      have t : threeE a b 0 = 16 := by unfold threeE; rw [h]; rfl
      rw [e]; exact ofChecked_bad a b 0 16 w t rfl
    · have h' := h
      simp only [Bool.and_eq_true, isAm_iff] at h'
      have t : threeE a b c = 0 := by unfold threeE; rw [h, if_pos rfl, if_neg hc]
      by_cases hq : a * b / c ≤ 128849018880000
      · have e : ofE a b c = 0 := by unfold ofE; rw [h, if_pos rfl, if_neg hc, if_pos hq]
        rw [e]; exact ofChecked_ok a b c _ _ w t (refOf_ok a b c _ _ w h (by omega) rfl rfl hq)
      · have e : ofE a b c = 15 := by unfold ofE; rw [h, if_pos rfl, if_neg hc, if_neg hq]
        rw [e]; exact ofChecked_big a b c w t (refOf_big a b c w h (by omega) (by omega))

theorem refUp_walk (a b c q r x : Int) (w : World) (q0 : 0 ≤ q) (q1 : q ≤ 128849018880000) (hof : Hid (∀ W, Calls Try.prog 10 #[.int .i64 a, .int .i64 b, .int .i64 c] W fun e w' => e = .returned (.tuple #[.int .i64 q, .int .i64 r, .int .i64 x]) ∧ Below W.heap.size W w')) :
    Calls Try.prog 12 #[.int .i64 a, .int .i64 b, .int .i64 c] w fun e w' => e = .returned (.tuple #[.int .i64 (upQ q r x), .int .i64 (upE q r x)]) ∧ Below w.heap.size w w' := by
  go_enter Try.func12, Try.ntmps12
  go_wp2_with fail
  refine (hof.out _).mono ?_
  rintro e w1 ⟨rfl, hb1⟩
  go_wp2
  all_goals
    go_returns
    refine ⟨ret_two ?_ ?_, hb1⟩
  all_goals (simp only [upQ, upE]; grind)

theorem refUp_any (a b c : Int) (w : World) :
    Calls Try.prog 12 #[.int .i64 a, .int .i64 b, .int .i64 c] w fun e w' => e = .returned (.tuple #[.int .i64 (upQ (ofQ a b c) (ofR a b c) (ofE a b c)), .int .i64 (upE (ofQ a b c) (ofR a b c) (ofE a b c))]) ∧ Below w.heap.size w w' :=
  refUp_walk a b c _ _ _ w (ofQ_bd a b c).1 (ofQ_bd a b c).2 (fun W => ofChecked_any a b c W)

theorem refCompare_bad (a b c d : Int) (w : World) (h : (isAm a && isAm b && isAm c && isAm d) = false) :
    Calls Try.prog 14 #[.int .i64 a, .int .i64 b, .int .i64 c, .int .i64 d] w fun e w' => e = .returned (.tuple #[.int .i64 0, .int .i64 2]) ∧ Below w.heap.size w w' := by
  have H := Lib.hid h; clear h
  cases ha : isAm a with
  | false =>
    go_enter Try.func14, Try.ntmps14
    go_wp2_with (go_at_call 31; refine (is_any _ _).mono ?_; rintro e w' ⟨rfl, rfl⟩)
    go_returns
    exact ⟨rfl, Below.refl _ _⟩
  | true =>
  cases hb : isAm b with
  | false =>
    go_enter Try.func14, Try.ntmps14
    go_wp2_with (go_at_call 31; refine (is_any _ _).mono ?_; rintro e w' ⟨rfl, rfl⟩)
    go_returns
    exact ⟨rfl, Below.refl _ _⟩
  | true =>
  cases hc : isAm c with
  | false =>
    go_enter Try.func14, Try.ntmps14
    go_wp2_with (go_at_call 31; refine (is_any _ _).mono ?_; rintro e w' ⟨rfl, rfl⟩)
    go_returns
    exact ⟨rfl, Below.refl _ _⟩
  | true =>
  cases hd : isAm d with
  | false =>
    go_enter Try.func14, Try.ntmps14
    go_wp2_with (go_at_call 31; refine (is_any _ _).mono ?_; rintro e w' ⟨rfl, rfl⟩)
    go_returns
    exact ⟨rfl, Below.refl _ _⟩
  | true => have := H.out; rw [ha, hb, hc, hd] at this; cases this

theorem refCompare_zero (a b c d : Int) (w : World) (ha : isAm a = true) (hb : isAm b = true) (hc : isAm c = true) (hd : isAm d = true) (hz : b = 0 ∨ d = 0) :
    Calls Try.prog 14 #[.int .i64 a, .int .i64 b, .int .i64 c, .int .i64 d] w fun e w' => e = .returned (.tuple #[.int .i64 0, .int .i64 16]) ∧ Below w.heap.size w w' := by
  by_cases h0 : b = 0
  · subst h0
    clear hz
    go_enter Try.func14, Try.ntmps14
    go_wp2_with (go_at_call 31; refine (is_any _ _).mono ?_; rintro e w' ⟨rfl, rfl⟩)
    go_returns
    exact ⟨rfl, Below.refl _ _⟩
  · obtain rfl : d = 0 := by omega
    have hb' : (b == 0) = false := by rw [beq_eq_false_iff_ne]; exact h0
    clear hz h0
    go_enter Try.func14, Try.ntmps14
    go_wp2_with (go_at_call 31; refine (is_any _ _).mono ?_; rintro e w' ⟨rfl, rfl⟩)
    go_returns
    exact ⟨rfl, Below.refl _ _⟩

theorem refCompare_good (a b c d : Int) (w : World) (ha : isAm a = true) (hb : isAm b = true) (hc : isAm c = true) (hd : isAm d = true) (h1 : 1 ≤ b) (h2 : 1 ≤ d) :
    Calls Try.prog 14 #[.int .i64 a, .int .i64 b, .int .i64 c, .int .i64 d] w fun e w' => e = .returned (.tuple #[.int .i64 (cmpN (a * d) (c * b)), .int .i64 0]) ∧ Below w.heap.size w w' := by
  obtain ⟨a0, a1⟩ := (isAm_iff a).1 ha
  obtain ⟨b0, b1⟩ := (isAm_iff b).1 hb
  obtain ⟨c0, c1⟩ := (isAm_iff c).1 hc
  obtain ⟨d0, d1⟩ := (isAm_iff d).1 hd
  have hb' : (b == 0) = false := by rw [beq_eq_false_iff_ne]; omega
  have hd' : (d == 0) = false := by rw [beq_eq_false_iff_ne]; omega
  cases t1 : decide (a * d < c * b) with
  | true =>
    have T1 := Lib.hid t1
    have C : Hid (cmpN (a * d) (c * b) = -1) := by show _ = _; unfold cmpN; rw [if_pos (of_decide_eq_true t1)]
    clear t1
    rw [C.out]
    go_enter Try.func14, Try.ntmps14
    go_wp2_with (go_at_call 31; refine (is_any _ _).mono ?_; rintro e w' ⟨rfl, rfl⟩)
    refine (product_any a d _ a0 (by omega) d0 (by omega)).mono ?_
    rintro e w1 ⟨rfl, hb1⟩
    go_wp2_with fail
    refine (product_any c b _ c0 (by omega) b0 (by omega)).mono ?_
    rintro e w2 ⟨rfl, hb2⟩
    go_wp2_with fail
    refine (less_lit _ _ _ true T1.out).mono ?_
    rintro e w3 ⟨rfl, hb3⟩
    go_wp2
    go_returns
    exact ⟨rfl, bel_trans (bel_trans hb1 hb2) (bel_alloc (bel_alloc hb3))⟩
  | false =>
  have T1 := Lib.hid t1
  cases t2 : decide (c * b < a * d) with
  | true =>
    have T2 := Lib.hid t2
    have C : Hid (cmpN (a * d) (c * b) = 1) := by show _ = _; unfold cmpN; rw [if_neg (of_decide_eq_false t1), if_pos (of_decide_eq_true t2)]
    clear t1 t2
    rw [C.out]
    go_enter Try.func14, Try.ntmps14
    go_wp2_with (go_at_call 31; refine (is_any _ _).mono ?_; rintro e w' ⟨rfl, rfl⟩)
    refine (product_any a d _ a0 (by omega) d0 (by omega)).mono ?_
    rintro e w1 ⟨rfl, hb1⟩
    go_wp2_with fail
    refine (product_any c b _ c0 (by omega) b0 (by omega)).mono ?_
    rintro e w2 ⟨rfl, hb2⟩
    go_wp2_with fail
    refine (less_lit _ _ _ false T1.out).mono ?_
    rintro e w3 ⟨rfl, hb3⟩
    have hs1 := fun o => (bcell hb3).1 w2.heap.size o (by simp; omega)
    have hs2 := fun o => (bcell hb3).1 (w2.heap.size + 1) o (by simp)
    go_wp2_with fail
    refine (less_lit _ _ _ true T2.out).mono ?_
    rintro e w4 ⟨rfl, hb4⟩
    go_wp2
    go_returns
    exact ⟨rfl, bel_trans (bel_trans (bel_trans hb1 hb2) (bel_alloc (bel_alloc hb3))) hb4⟩
  | false =>
    have T2 := Lib.hid t2
    have C : Hid (cmpN (a * d) (c * b) = 0) := by show _ = _; unfold cmpN; rw [if_neg (of_decide_eq_false t1), if_neg (of_decide_eq_false t2)]
    clear t1 t2
    rw [C.out]
    go_enter Try.func14, Try.ntmps14
    go_wp2_with (go_at_call 31; refine (is_any _ _).mono ?_; rintro e w' ⟨rfl, rfl⟩)
    refine (product_any a d _ a0 (by omega) d0 (by omega)).mono ?_
    rintro e w1 ⟨rfl, hb1⟩
    go_wp2_with fail
    refine (product_any c b _ c0 (by omega) b0 (by omega)).mono ?_
    rintro e w2 ⟨rfl, hb2⟩
    go_wp2_with fail
    refine (less_lit _ _ _ false T1.out).mono ?_
    rintro e w3 ⟨rfl, hb3⟩
    have hs1 := fun o => (bcell hb3).1 w2.heap.size o (by simp; omega)
    have hs2 := fun o => (bcell hb3).1 (w2.heap.size + 1) o (by simp)
    go_wp2_with fail
    refine (less_lit _ _ _ false T2.out).mono ?_
    rintro e w4 ⟨rfl, hb4⟩
    go_wp2
    go_returns
    exact ⟨rfl, bel_trans (bel_trans (bel_trans hb1 hb2) (bel_alloc (bel_alloc hb3))) hb4⟩

theorem refCompare_any (a b c d : Int) (w : World) :
    Calls Try.prog 14 #[.int .i64 a, .int .i64 b, .int .i64 c, .int .i64 d] w fun e w' => e = .returned (.tuple #[.int .i64 (cmpC a b c d), .int .i64 (cmpE a b c d)]) ∧ Below w.heap.size w w' := by
  unfold cmpC
  cases h : (isAm a && isAm b && isAm c && isAm d) with
  | false =>
    have e : cmpE a b c d = 2 := by unfold cmpE; rw [h]; rfl
    rw [e]; exact refCompare_bad a b c d w h
  | true =>
    have h' := h
    simp only [Bool.and_eq_true] at h'
    obtain ⟨⟨⟨ha, hb⟩, hc⟩, hd⟩ := h'
    by_cases hz : b = 0 ∨ d = 0
    · have e : cmpE a b c d = 16 := by unfold cmpE; rw [h, if_pos rfl]; grind
      rw [e]; exact refCompare_zero a b c d w ha hb hc hd hz
    · have e : cmpE a b c d = 0 := by unfold cmpE; rw [h, if_pos rfl]; grind
      have := (isAm_iff b).1 hb
      have := (isAm_iff d).1 hd
      rw [e]; exact refCompare_good a b c d w ha hb hc hd (by omega) (by omega)

end Go.Proofs.Ytlpngfngdigchaa
