/- Package proportion: Up and Compare. -/
import Derived.Test.YtlpngfngdigchaaOf
namespace Go.Proofs.Ytlpngfngdigchaa
open Go.RowKit

theorem ret_int {k : IntKind} {a b : Int} (h : a = b) : Ending.returned (.int k a) = .returned (.int k b) := by rw [h]

theorem up_walk (a b c q r x : Int) (w : World) (q0 : 0 ≤ q) (q1 : q ≤ 128849018880000) (hof : Hid (∀ W, Calls Try.prog 9 #[.int .i64 a, .int .i64 b, .int .i64 c] W fun e w' => e = .returned (.tuple #[.int .i64 q, .int .i64 r, .int .i64 x]) ∧ Below W.heap.size W w')) :
    Calls Try.prog 11 #[.int .i64 a, .int .i64 b, .int .i64 c] w fun e w' => e = .returned (.tuple #[.int .i64 (upQ q r x), .int .i64 (upE q r x)]) ∧ Below w.heap.size w w' := by
  go_enter Try.func11, Try.ntmps11
  go_wp2_with fail
  refine (hof.out _).mono ?_
  rintro e w1 ⟨rfl, hb1⟩
  go_wp2
  all_goals
    go_returns
    refine ⟨ret_two ?_ ?_, hb1⟩
  all_goals (simp only [upQ, upE]; grind)

theorem up_any (a b c : Int) (w : World) :
    Calls Try.prog 11 #[.int .i64 a, .int .i64 b, .int .i64 c] w fun e w' => e = .returned (.tuple #[.int .i64 (upQ (ofQ a b c) (ofR a b c) (ofE a b c)), .int .i64 (upE (ofQ a b c) (ofR a b c) (ofE a b c))]) ∧ Below w.heap.size w w' :=
  up_walk a b c _ _ _ w (ofQ_bd a b c).1 (ofQ_bd a b c).2 (fun W => of_any a b c W)

theorem compare_bad (a b c d : Int) (w : World) (h : (isAm a && isAm b && isAm c && isAm d) = false) :
    Calls Try.prog 13 #[.int .i64 a, .int .i64 b, .int .i64 c, .int .i64 d] w fun e w' => e = .returned (.tuple #[.int .i64 0, .int .i64 2]) ∧ Below w.heap.size w w' := by
  have H := Lib.hid h; clear h
  go_enter Try.func13, Try.ntmps13
  go_wp2_with (go_at_call 25; refine (amounts4 _ _ _ _ _ _ H.out).mono ?_; rintro e w' ⟨rfl, rfl⟩)
  go_returns
  exact ⟨rfl, by go_grown⟩

theorem cmpU_any (x y : Int) (w : World) :
    Calls Try.prog 40 #[.int .u64 x, .int .u64 y] w fun e w' => e = .returned (.int .i64 (cmpN x y)) ∧ w = w' := by
  go_enter Try.func40, Try.ntmps40
  go_wp2
  all_goals go_ret
  all_goals (refine ⟨ret_int ?_, rfl⟩; simp only [cmpN]; grind)

/-- two words compared: the upper ones first -/
def cmpW (h1 l1 h2 l2 : Int) : Int := if cmpN h1 h2 = 0 then cmpN l1 l2 else cmpN h1 h2
theorem cmpW_eq (p q : Int) : cmpW (hiW p) (loW p) (hiW q) (loW q) = cmpN p q := by
  unfold cmpW cmpN hiW loW; grind

set_option maxHeartbeats 1000000 in
theorem slicesCompare_two (b1 b2 : Nat) (h1 l1 h2 l2 : Int) (w : World)
    (c1 : w.cell? ⟨b1, 0, none⟩ = some (.int .u64 h1)) (c2 : w.cell? ⟨b1, 1, none⟩ = some (.int .u64 l1))
    (c3 : w.cell? ⟨b2, 0, none⟩ = some (.int .u64 h2)) (c4 : w.cell? ⟨b2, 1, none⟩ = some (.int .u64 l2)) :
    Calls Try.prog 30 #[.slice (some ⟨b1, 0, none⟩) 2 2, .slice (some ⟨b2, 0, none⟩) 2 2] w fun e w' => e = .returned (.int .i64 (cmpW h1 l1 h2 l2)) ∧ w = w' := by
  have t1 : ∀ W, Calls Try.prog 40 #[.int .u64 h1, .int .u64 h2] W fun e w' => e = .returned (.int .i64 (cmpN h1 h2)) ∧ W = w' := fun W => cmpU_any h1 h2 W
  have t2 : ∀ W, Calls Try.prog 40 #[.int .u64 l1, .int .u64 l2] W fun e w' => e = .returned (.int .i64 (cmpN l1 l2)) ∧ W = w' := fun W => cmpU_any l1 l2 W
  unfold cmpW
  generalize cmpN h1 h2 = p at *
  generalize cmpN l1 l2 = q at *
  have T1 := Lib.hid t1; clear t1
  have T2 := Lib.hid t2; clear t2
  by_cases k : p = 0
  · subst k
    rw [if_pos rfl]
    by_cases k2 : q = 0
    · subst k2
      go_enter Try.func30, Try.ntmps30
      go_wp2_with fail
      refine wp_loop_rounds 3 ?_
      rw [rounds_succ]
      go_wp2_with fail
      refine (T1.out _).mono ?_; rintro e w' ⟨rfl, rfl⟩
      go_wp2_with fail
      rw [rounds_succ]
      go_wp2_with fail
      refine (T2.out _).mono ?_; rintro e w' ⟨rfl, rfl⟩
      go_wp2_with fail
      rw [rounds_succ]
      go_wp2_with fail
      go_ret
      exact ⟨rfl, rfl⟩
    · have kn : (q != 0) = true := by simp [k2]
      clear k2
      go_enter Try.func30, Try.ntmps30
      go_wp2_with fail
      refine wp_loop_rounds 3 ?_
      rw [rounds_succ]
      go_wp2_with fail
      refine (T1.out _).mono ?_; rintro e w' ⟨rfl, rfl⟩
      go_wp2_with fail
      rw [rounds_succ]
      go_wp2_with fail
      refine (T2.out _).mono ?_; rintro e w' ⟨rfl, rfl⟩
      go_wp2_with fail
      go_ret
      exact ⟨rfl, rfl⟩
  · have kn : (p != 0) = true := by simp [k]
    rw [if_neg k]
    clear k
    go_enter Try.func30, Try.ntmps30
    go_wp2_with fail
    refine wp_loop_rounds 3 ?_
    rw [rounds_succ]
    go_wp2_with fail
    refine (T1.out _).mono ?_; rintro e w' ⟨rfl, rfl⟩
    go_wp2_with fail
    go_ret
    exact ⟨rfl, rfl⟩

theorem compare_good (a b c d : Int) (w : World) (h : (isAm a && isAm b && isAm c && isAm d) = true) (hb : 1 ≤ b) (hd : 1 ≤ d) :
    Calls Try.prog 13 #[.int .i64 a, .int .i64 b, .int .i64 c, .int .i64 d] w fun e w' => e = .returned (.tuple #[.int .i64 (cmpN (a * d) (c * b)), .int .i64 0]) ∧ Below w.heap.size w w' := by
  have h' := h
  simp only [Bool.and_eq_true, isAm_iff] at h'
  obtain ⟨⟨⟨⟨a0, a1⟩, b0, b1⟩, c0, c1⟩, d0, d1⟩ := h'
  have H := Lib.hid h; clear h
  have hb' : (b == 0) = false := by rw [beq_eq_false_iff_ne]; omega
  have hd' : (d == 0) = false := by rw [beq_eq_false_iff_ne]; omega
  go_enter Try.func13, Try.ntmps13
  go_wp2_with (go_at_call 25; refine (amounts4 _ _ _ _ _ _ H.out).mono ?_; rintro e w' ⟨rfl, rfl⟩)
  refine (multiply_any a d _ a0 (by omega) d0 (by omega)).mono ?_
  rintro e w1 ⟨rfl, hb1⟩
  go_wp2_with fail
  refine (multiply_any c b _ c0 (by omega) b0 (by omega)).mono ?_
  rintro e w2 ⟨rfl, hb2⟩
  go_wp2_with fail
  go_quiet ((go_at_call 30; refine Calls.quiet_of_same ((slicesCompare_two _ _ (hiW (a * d)) (loW (a * d)) (hiW (c * b)) (loW (c * b)) _ ?_ ?_ ?_ ?_).mono fun _ _ h => ⟨h.1, h.2.symm⟩) <;> simp [go_sem]))
  go_wp2
  go_returns
  exact ⟨ret_two (cmpW_eq _ _) rfl, bel_trans (bel_trans (bel_alloc hb1) hb2) (bel_alloc (bel_alloc (bel_drewN _ _)))⟩

theorem compare_zero (a b c d : Int) (w : World) (h : (isAm a && isAm b && isAm c && isAm d) = true) (hz : b = 0 ∨ d = 0) :
    Calls Try.prog 13 #[.int .i64 a, .int .i64 b, .int .i64 c, .int .i64 d] w fun e w' => e = .returned (.tuple #[.int .i64 0, .int .i64 16]) ∧ Below w.heap.size w w' := by
  have H := Lib.hid h; clear h
  by_cases hb : b = 0
  · subst hb
    clear hz
    go_enter Try.func13, Try.ntmps13
    go_wp2_with (go_at_call 25; refine (amounts4 _ _ _ _ _ _ H.out).mono ?_; rintro e w' ⟨rfl, rfl⟩)
    go_returns
    exact ⟨rfl, by go_grown⟩
  · have hd : d = 0 := by omega
    subst hd
    have hb' : (b == 0) = false := by rw [beq_eq_false_iff_ne]; omega
    clear hz hb
    go_enter Try.func13, Try.ntmps13
    go_wp2_with (go_at_call 25; refine (amounts4 _ _ _ _ _ _ H.out).mono ?_; rintro e w' ⟨rfl, rfl⟩)
    go_returns
    exact ⟨rfl, by go_grown⟩

theorem compare_any (a b c d : Int) (w : World) :
    Calls Try.prog 13 #[.int .i64 a, .int .i64 b, .int .i64 c, .int .i64 d] w fun e w' => e = .returned (.tuple #[.int .i64 (cmpC a b c d), .int .i64 (cmpE a b c d)]) ∧ Below w.heap.size w w' := by
  unfold cmpC
  cases h : (isAm a && isAm b && isAm c && isAm d) with
  | false =>
    have e : cmpE a b c d = 2 := by unfold cmpE; rw [h]; rfl
    rw [e]; exact compare_bad a b c d w h
  | true =>
    by_cases hz : b = 0 ∨ d = 0
    · have e : cmpE a b c d = 16 := by unfold cmpE; rw [h, if_pos rfl]; grind
      rw [e]; exact compare_zero a b c d w h hz
    · have e : cmpE a b c d = 0 := by unfold cmpE; rw [h, if_pos rfl]; grind
      have h' := h
      simp only [Bool.and_eq_true, isAm_iff] at h'
      rw [e]; exact compare_good a b c d w h (by omega) (by omega)

end Go.Proofs.Ytlpngfngdigchaa
