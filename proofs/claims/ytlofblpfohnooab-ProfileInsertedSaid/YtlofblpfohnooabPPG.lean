/- Package profile: distances, the radius on a piece, At. -/
import Derived.Test.YtlofblpfohnooabPPE
import Derived.Test.YtlofblpfohnooabPPF
import Derived.Test.YtlofblpfohnooabUp1
import Derived.Deep.QuietTactic
import Derived.BigQuiet
namespace Go.Proofs.Ytlofblpfohnooab
open Go.RowKit

theorem cdv_of {n d : Int} (h : 0 < d) : cdv n d = n / d + (if 0 < n % d then 1 else 0) := by
  have h1 := Int.emod_add_mul_ediv n d
  have h2 := Int.emod_lt_of_pos n h
  have h3 := Int.emod_nonneg n (show d ≠ 0 by omega)
  rw [Int.mul_comm] at h1
  apply Int.le_antisymm
  · rw [cl_iff _ _ _ h, Int.add_mul]
    by_cases g : 0 < n % d
    · rw [if_pos g]; omega
    · rw [if_neg g]; omega
  · by_cases g : 0 < n % d
    · rw [if_pos g]
      have : ¬ cdv n d ≤ n / d := fun hh => by
        rw [cl_iff _ _ _ h] at hh
        omega
      omega
    · rw [if_neg g]
      have := (fl_cl n d h).1
      omega
theorem cdv_add (m p d : Int) (h : 0 < d) : cdv (m + p * d) d = cdv m d + p := by
  unfold cdv
  rw [show m + p * d + d - 1 = m + d - 1 + p * d by omega]
  exact Int.add_mul_ediv_right _ _ (by omega)
theorem ln_up {a p b q x : Int} (hab : a < b) : lnL a p b q x = p + (q - p) * (x - a) / (b - a) ∧ lnH a p b q x = p + cdv ((q - p) * (x - a)) (b - a) := by
  unfold lnL lnH lnN
  rw [Int.add_comm (p * (b - a)), Int.add_mul_ediv_right _ _ (by omega), cdv_add _ _ _ (by omega)]
  omega
theorem ln_dn {a p b q x : Int} (hab : a < b) : lnL a p b q x = q + (p - q) * (b - x) / (b - a) ∧ lnH a p b q x = q + cdv ((p - q) * (b - x)) (b - a) := by
  have e : lnN a p b q x = (p - q) * (b - x) + q * (b - a) := by unfold lnN; grind
  unfold lnL lnH
  rw [e, Int.add_mul_ediv_right _ _ (by omega), cdv_add _ _ _ (by omega)]
  omega
theorem prop_facts {a b c : Int} (ha : 0 ≤ a ∧ a ≤ 100000) (hb : 0 ≤ b ∧ b ≤ 100000) (hc : 1 ≤ c ∧ c ≤ 100000) :
    ofE a b c = 0 ∧ ofQ a b c = a * b / c ∧ upQ (ofQ a b c) (ofR a b c) (ofE a b c) = cdv (a * b) c ∧ upE (ofQ a b c) (ofR a b c) (ofE a b c) = 0 := by
  have m0 : 0 ≤ a * b := Int.mul_nonneg ha.1 hb.1
  have m1 : a * b ≤ 100000 * 100000 := Int.mul_le_mul ha.2 hb.2 hb.1 (by omega)
  have q1 : a * b / c ≤ a * b := Int.ediv_le_self _ m0
  have i : (isAm a && isAm b && isAm c) = true := by
    simp only [isAm, Bool.and_eq_true, decide_eq_true_eq]
    omega
  have e : ofE a b c = 0 := by
    unfold ofE
    rw [if_pos i, if_neg (by omega), if_pos (by omega)]
  have eq : ofQ a b c = a * b / c := by unfold ofQ; rw [if_pos e]
  have er : ofR a b c = a * b % c := by unfold ofR; rw [if_pos e]
  have ue : upE (ofQ a b c) (ofR a b c) (ofE a b c) = 0 := by
    unfold upE
    rw [if_pos e, if_pos]
    rw [eq]
    split <;> omega
  refine ⟨e, eq, ?_, ue⟩
  unfold upQ
  rw [if_pos ue, eq, er, cdv_of (by omega)]

theorem dist_any (a b : Int) (w : World) (a0 : 0 ≤ a) (a1 : a ≤ 100000) (b0 : 0 ≤ b) (b1 : b ≤ 100000) :
    Calls Try.prog 44 #[.int .i64 a, .int .i64 b] w fun e w' => e = .returned (.int .i64 (max (a - b) (b - a))) ∧ w' = w := by
  have w1 : IntKind.i64.wrap (a - b) = a - b := wrap_in _ ⟨by omega, by omega⟩
  have w2 : IntKind.i64.wrap (b - a) = b - a := wrap_in _ ⟨by omega, by omega⟩
  go_enter Try.func44, Try.ntmps44
  go_wp2
  go_ret
  exact ⟨rfl, rfl⟩

set_option maxRecDepth 100000 in
set_option maxHeartbeats 16000000 in
theorem at_up (a p b q x Q V : Int) (w : World) (a0 : 0 ≤ a) (ab : a < b) (b1 : b ≤ 100000) (p0 : 0 ≤ p) (p1 : p ≤ 100000) (q0 : 0 ≤ q) (pq : p ≤ q) (q1 : q ≤ 100000) (hQ0 : 0 ≤ Q) (hQ : Q ≤ 100000) (hV0 : 0 ≤ V) (hV : V ≤ 100000)
    (x0 : a ≤ x) (x1 : x ≤ b) (m1 : max (a - x) (x - a) = (x - a)) (m2 : max (a - b) (b - a) = b - a)
    (HD : Hid (∀ u v W, (0 ≤ u ∧ u ≤ 100000 ∧ 0 ≤ v ∧ v ≤ 100000) → Calls Try.prog 44 #[.int .i64 u, .int .i64 v] W fun e w' => e = .returned (.int .i64 (max (u - v) (v - u))) ∧ w' = W))
    (H3 : Hid (∀ W, Calls Try.prog 45 #[.int .i64 (q - p), .int .i64 (x - a), .int .i64 (b - a)] W fun e w' => ∃ R, e = .returned (.tuple #[.int .i64 Q, .int .i64 R, .int .i64 0]) ∧ Below W.heap.size W w'))
    (H4 : Hid (∀ W, Calls Try.prog 46 #[.int .i64 (q - p), .int .i64 (x - a), .int .i64 (b - a)] W fun e w' => e = .returned (.tuple #[.int .i64 V, .int .i64 0]) ∧ Below W.heap.size W w')) :
    Calls Try.prog 36 #[.agg #[.int .i64 a, .int .i64 p, .int .i64 b, .int .i64 q], .int .i64 x] w fun e w' => e = .returned (.agg #[.int .i64 (p + Q), .int .i64 (p + V)]) ∧ Below w.heap.size w w' := by
  have w1 : IntKind.i64.wrap (q - p) = (q - p) := wrap_in _ ⟨by omega, by omega⟩
  have w2 : IntKind.i64.wrap (p + Q) = p + Q := wrap_in _ ⟨by omega, by omega⟩
  have w3 : IntKind.i64.wrap (p + V) = p + V := wrap_in _ ⟨by omega, by omega⟩
  go_enter Try.func36, Try.ntmps36
  go_wp2_with fail
  go_region
  · have TR : Hid (Two (w.heap.size + 1) ((((w.alloc (.cells #[.int .i64 a, .int .i64 p, .int .i64 b, .int .i64 q] 51)).alloc (.cells #[.int .i64 0, .int .i64 0] 33)).alloc (.cells #[.int .i64 a, .int .i64 p] 30)).alloc (.cells #[.int .i64 b, .int .i64 q] 30)) (.int .i64 0) (.int .i64 0)) := by
      have := ((Two.new (w.alloc (.cells #[.int .i64 a, .int .i64 p, .int .i64 b, .int .i64 q] 51)) (.int .i64 0) (.int .i64 0) 33).alloc (.cells #[.int .i64 a, .int .i64 p] 30)).alloc (.cells #[.int .i64 b, .int .i64 q] 30)
      rwa [World.size_alloc] at this
    have T1 : Hid (Two (w.heap.size + 1 + 1) ((((w.alloc (.cells #[.int .i64 a, .int .i64 p, .int .i64 b, .int .i64 q] 51)).alloc (.cells #[.int .i64 0, .int .i64 0] 33)).alloc (.cells #[.int .i64 a, .int .i64 p] 30)).alloc (.cells #[.int .i64 b, .int .i64 q] 30)) (.int .i64 a) (.int .i64 p)) := by
      have := (Two.new ((w.alloc (.cells #[.int .i64 a, .int .i64 p, .int .i64 b, .int .i64 q] 51)).alloc (.cells #[.int .i64 0, .int .i64 0] 33)) (.int .i64 a) (.int .i64 p) 30).alloc (.cells #[.int .i64 b, .int .i64 q] 30)
      rwa [World.size_alloc, World.size_alloc] at this
    have T2 : Hid (Two (w.heap.size + 1 + 1 + 1) ((((w.alloc (.cells #[.int .i64 a, .int .i64 p, .int .i64 b, .int .i64 q] 51)).alloc (.cells #[.int .i64 0, .int .i64 0] 33)).alloc (.cells #[.int .i64 a, .int .i64 p] 30)).alloc (.cells #[.int .i64 b, .int .i64 q] 30)) (.int .i64 b) (.int .i64 q)) := by
      have := Two.new (((w.alloc (.cells #[.int .i64 a, .int .i64 p, .int .i64 b, .int .i64 q] 51)).alloc (.cells #[.int .i64 0, .int .i64 0] 33)).alloc (.cells #[.int .i64 a, .int .i64 p] 30)) (.int .i64 b) (.int .i64 q) 30
      rwa [World.size_alloc, World.size_alloc, World.size_alloc] at this
    have HB : Hid (Below w.heap.size w ((((w.alloc (.cells #[.int .i64 a, .int .i64 p, .int .i64 b, .int .i64 q] 51)).alloc (.cells #[.int .i64 0, .int .i64 0] 33)).alloc (.cells #[.int .i64 a, .int .i64 p] 30)).alloc (.cells #[.int .i64 b, .int .i64 q] 30))) := bel_alloc (bel_alloc (bel_alloc (bel_alloc (Below.refl _ _))))
    replace TR := Lib.hid (TR.out.below (bel_drew _))
    replace T1 := Lib.hid (T1.out.below (bel_drew _))
    replace T2 := Lib.hid (T2.out.below (bel_drew _))
    replace HB := Lib.hid (bel_trans HB.out (bel_drew _))
    generalize ((((w.alloc (.cells #[.int .i64 a, .int .i64 p, .int .i64 b, .int .i64 q] 51)).alloc (.cells #[.int .i64 0, .int .i64 0] 33)).alloc (.cells #[.int .i64 a, .int .i64 p] 30)).alloc (.cells #[.int .i64 b, .int .i64 q] 30)).drew = wa at *
    obtain ⟨t0, t1, t2, t3, t4⟩ := T1.out
    obtain ⟨s0, s1, s2, s3, s4⟩ := T2.out
    go_wp2_with fail
    go_quiet ((go_at_call 44; refine Calls.quiet_of_same (HD.out _ _ _ ⟨by omega, by omega, by omega, by omega⟩)))
    replace TR := Lib.hid (TR.out.below (bel_drewN _ nq))
    replace T1 := Lib.hid (T1.out.below (bel_drewN _ nq))
    replace HB := Lib.hid (bel_trans HB.out (bel_drewN _ nq))
    generalize wa.drewN nq = wb at *
    clear t0 t1 t2 t3 t4 s0 s1 s2 s3 s4
    go_wp2_with fail
    refine (H3.out _).mono ?_
    rintro e w4 ⟨R, rfl, h1⟩
    replace TR := Lib.hid (TR.out.below h1)
    replace T1 := Lib.hid (T1.out.below h1)
    replace HB := Lib.hid (bel_trans HB.out h1); clear h1
    go_wp2_with fail
    refine (H4.out _).mono ?_
    rintro e w5 ⟨rfl, h1⟩
    replace TR := Lib.hid (TR.out.below h1)
    replace T1 := Lib.hid (T1.out.below h1)
    replace HB := Lib.hid (bel_trans HB.out h1); clear h1
    obtain ⟨t0, t1, _, _, _⟩ := T1.out
    obtain ⟨r0, r1, r2, r3, _⟩ := TR.out
    go_wp2
    obtain ⟨z0, z1⟩ := two_read w5 (w.heap.size + 1) (.int .i64 (p + Q)) (.int .i64 (p + V)) r0 r1
    refine bodyPost_ret (v := .agg #[.int .i64 (p + Q), .int .i64 (p + V)]) (by simp [results, Try.results36, go_sem, z0, z1]) rfl ?_
    exact ⟨rfl, (HB.out.setCell (p := ⟨w.heap.size + 1, 0, none⟩) (Nat.le_succ _) _).setCell (p := ⟨w.heap.size + 1, 1, none⟩) (Nat.le_succ _) _⟩
  · have TR : Hid (Two (w.heap.size + 1) ((((w.alloc (.cells #[.int .i64 a, .int .i64 p, .int .i64 b, .int .i64 q] 51)).alloc (.cells #[.int .i64 0, .int .i64 0] 33)).alloc (.cells #[.int .i64 b, .int .i64 q] 30)).alloc (.cells #[.int .i64 a, .int .i64 p] 30)) (.int .i64 0) (.int .i64 0)) := by
      have := ((Two.new (w.alloc (.cells #[.int .i64 a, .int .i64 p, .int .i64 b, .int .i64 q] 51)) (.int .i64 0) (.int .i64 0) 33).alloc (.cells #[.int .i64 b, .int .i64 q] 30)).alloc (.cells #[.int .i64 a, .int .i64 p] 30)
      rwa [World.size_alloc] at this
    have T1 : Hid (Two (w.heap.size + 1 + 1) ((((w.alloc (.cells #[.int .i64 a, .int .i64 p, .int .i64 b, .int .i64 q] 51)).alloc (.cells #[.int .i64 0, .int .i64 0] 33)).alloc (.cells #[.int .i64 b, .int .i64 q] 30)).alloc (.cells #[.int .i64 a, .int .i64 p] 30)) (.int .i64 b) (.int .i64 q)) := by
      have := (Two.new ((w.alloc (.cells #[.int .i64 a, .int .i64 p, .int .i64 b, .int .i64 q] 51)).alloc (.cells #[.int .i64 0, .int .i64 0] 33)) (.int .i64 b) (.int .i64 q) 30).alloc (.cells #[.int .i64 a, .int .i64 p] 30)
      rwa [World.size_alloc, World.size_alloc] at this
    have T2 : Hid (Two (w.heap.size + 1 + 1 + 1) ((((w.alloc (.cells #[.int .i64 a, .int .i64 p, .int .i64 b, .int .i64 q] 51)).alloc (.cells #[.int .i64 0, .int .i64 0] 33)).alloc (.cells #[.int .i64 b, .int .i64 q] 30)).alloc (.cells #[.int .i64 a, .int .i64 p] 30)) (.int .i64 a) (.int .i64 p)) := by
      have := Two.new (((w.alloc (.cells #[.int .i64 a, .int .i64 p, .int .i64 b, .int .i64 q] 51)).alloc (.cells #[.int .i64 0, .int .i64 0] 33)).alloc (.cells #[.int .i64 b, .int .i64 q] 30)) (.int .i64 a) (.int .i64 p) 30
      rwa [World.size_alloc, World.size_alloc, World.size_alloc] at this
    have HB : Hid (Below w.heap.size w ((((w.alloc (.cells #[.int .i64 a, .int .i64 p, .int .i64 b, .int .i64 q] 51)).alloc (.cells #[.int .i64 0, .int .i64 0] 33)).alloc (.cells #[.int .i64 b, .int .i64 q] 30)).alloc (.cells #[.int .i64 a, .int .i64 p] 30))) := bel_alloc (bel_alloc (bel_alloc (bel_alloc (Below.refl _ _))))
    replace TR := Lib.hid (TR.out.below (bel_drew _))
    replace T1 := Lib.hid (T1.out.below (bel_drew _))
    replace T2 := Lib.hid (T2.out.below (bel_drew _))
    replace HB := Lib.hid (bel_trans HB.out (bel_drew _))
    generalize ((((w.alloc (.cells #[.int .i64 a, .int .i64 p, .int .i64 b, .int .i64 q] 51)).alloc (.cells #[.int .i64 0, .int .i64 0] 33)).alloc (.cells #[.int .i64 b, .int .i64 q] 30)).alloc (.cells #[.int .i64 a, .int .i64 p] 30)).drew = wa at *
    obtain ⟨t0, t1, t2, t3, t4⟩ := T1.out
    obtain ⟨s0, s1, s2, s3, s4⟩ := T2.out
    go_wp2_with fail
    go_quiet ((go_at_call 44; refine Calls.quiet_of_same (HD.out _ _ _ ⟨by omega, by omega, by omega, by omega⟩)))
    replace TR := Lib.hid (TR.out.below (bel_drewN _ nq))
    replace T2 := Lib.hid (T2.out.below (bel_drewN _ nq))
    replace HB := Lib.hid (bel_trans HB.out (bel_drewN _ nq))
    generalize wa.drewN nq = wb at *
    clear t0 t1 t2 t3 t4 s0 s1 s2 s3 s4
    go_wp2_with fail
    refine (H3.out _).mono ?_
    rintro e w4 ⟨R, rfl, h1⟩
    replace TR := Lib.hid (TR.out.below h1)
    replace T2 := Lib.hid (T2.out.below h1)
    replace HB := Lib.hid (bel_trans HB.out h1); clear h1
    go_wp2_with fail
    refine (H4.out _).mono ?_
    rintro e w5 ⟨rfl, h1⟩
    replace TR := Lib.hid (TR.out.below h1)
    replace T2 := Lib.hid (T2.out.below h1)
    replace HB := Lib.hid (bel_trans HB.out h1); clear h1
    obtain ⟨t0, t1, _, _, _⟩ := T2.out
    obtain ⟨r0, r1, r2, r3, _⟩ := TR.out
    go_wp2
    obtain ⟨z0, z1⟩ := two_read w5 (w.heap.size + 1) (.int .i64 (p + Q)) (.int .i64 (p + V)) r0 r1
    refine bodyPost_ret (v := .agg #[.int .i64 (p + Q), .int .i64 (p + V)]) (by simp [results, Try.results36, go_sem, z0, z1]) rfl ?_
    exact ⟨rfl, (HB.out.setCell (p := ⟨w.heap.size + 1, 0, none⟩) (Nat.le_succ _) _).setCell (p := ⟨w.heap.size + 1, 1, none⟩) (Nat.le_succ _) _⟩
set_option maxRecDepth 100000 in
set_option maxHeartbeats 16000000 in
theorem at_dn (a p b q x Q V : Int) (w : World) (a0 : 0 ≤ a) (ab : a < b) (b1 : b ≤ 100000) (p0 : 0 ≤ p) (p1 : p ≤ 100000) (q0 : 0 ≤ q) (pq : q < p) (q1 : q ≤ 100000) (hQ0 : 0 ≤ Q) (hQ : Q ≤ 100000) (hV0 : 0 ≤ V) (hV : V ≤ 100000)
    (x0 : a ≤ x) (x1 : x ≤ b) (m1 : max (b - x) (x - b) = (b - x)) (m2 : max (b - a) (a - b) = b - a)
    (HD : Hid (∀ u v W, (0 ≤ u ∧ u ≤ 100000 ∧ 0 ≤ v ∧ v ≤ 100000) → Calls Try.prog 44 #[.int .i64 u, .int .i64 v] W fun e w' => e = .returned (.int .i64 (max (u - v) (v - u))) ∧ w' = W))
    (H3 : Hid (∀ W, Calls Try.prog 45 #[.int .i64 (p - q), .int .i64 (b - x), .int .i64 (b - a)] W fun e w' => ∃ R, e = .returned (.tuple #[.int .i64 Q, .int .i64 R, .int .i64 0]) ∧ Below W.heap.size W w'))
    (H4 : Hid (∀ W, Calls Try.prog 46 #[.int .i64 (p - q), .int .i64 (b - x), .int .i64 (b - a)] W fun e w' => e = .returned (.tuple #[.int .i64 V, .int .i64 0]) ∧ Below W.heap.size W w')) :
    Calls Try.prog 36 #[.agg #[.int .i64 a, .int .i64 p, .int .i64 b, .int .i64 q], .int .i64 x] w fun e w' => e = .returned (.agg #[.int .i64 (q + Q), .int .i64 (q + V)]) ∧ Below w.heap.size w w' := by
  have w1 : IntKind.i64.wrap (p - q) = (p - q) := wrap_in _ ⟨by omega, by omega⟩
  have w2 : IntKind.i64.wrap (q + Q) = q + Q := wrap_in _ ⟨by omega, by omega⟩
  have w3 : IntKind.i64.wrap (q + V) = q + V := wrap_in _ ⟨by omega, by omega⟩
  go_enter Try.func36, Try.ntmps36
  go_wp2_with fail
  go_region
  · have TR : Hid (Two (w.heap.size + 1) ((((w.alloc (.cells #[.int .i64 a, .int .i64 p, .int .i64 b, .int .i64 q] 51)).alloc (.cells #[.int .i64 0, .int .i64 0] 33)).alloc (.cells #[.int .i64 a, .int .i64 p] 30)).alloc (.cells #[.int .i64 b, .int .i64 q] 30)) (.int .i64 0) (.int .i64 0)) := by
      have := ((Two.new (w.alloc (.cells #[.int .i64 a, .int .i64 p, .int .i64 b, .int .i64 q] 51)) (.int .i64 0) (.int .i64 0) 33).alloc (.cells #[.int .i64 a, .int .i64 p] 30)).alloc (.cells #[.int .i64 b, .int .i64 q] 30)
      rwa [World.size_alloc] at this
    have T1 : Hid (Two (w.heap.size + 1 + 1) ((((w.alloc (.cells #[.int .i64 a, .int .i64 p, .int .i64 b, .int .i64 q] 51)).alloc (.cells #[.int .i64 0, .int .i64 0] 33)).alloc (.cells #[.int .i64 a, .int .i64 p] 30)).alloc (.cells #[.int .i64 b, .int .i64 q] 30)) (.int .i64 a) (.int .i64 p)) := by
      have := (Two.new ((w.alloc (.cells #[.int .i64 a, .int .i64 p, .int .i64 b, .int .i64 q] 51)).alloc (.cells #[.int .i64 0, .int .i64 0] 33)) (.int .i64 a) (.int .i64 p) 30).alloc (.cells #[.int .i64 b, .int .i64 q] 30)
      rwa [World.size_alloc, World.size_alloc] at this
    have T2 : Hid (Two (w.heap.size + 1 + 1 + 1) ((((w.alloc (.cells #[.int .i64 a, .int .i64 p, .int .i64 b, .int .i64 q] 51)).alloc (.cells #[.int .i64 0, .int .i64 0] 33)).alloc (.cells #[.int .i64 a, .int .i64 p] 30)).alloc (.cells #[.int .i64 b, .int .i64 q] 30)) (.int .i64 b) (.int .i64 q)) := by
      have := Two.new (((w.alloc (.cells #[.int .i64 a, .int .i64 p, .int .i64 b, .int .i64 q] 51)).alloc (.cells #[.int .i64 0, .int .i64 0] 33)).alloc (.cells #[.int .i64 a, .int .i64 p] 30)) (.int .i64 b) (.int .i64 q) 30
      rwa [World.size_alloc, World.size_alloc, World.size_alloc] at this
    have HB : Hid (Below w.heap.size w ((((w.alloc (.cells #[.int .i64 a, .int .i64 p, .int .i64 b, .int .i64 q] 51)).alloc (.cells #[.int .i64 0, .int .i64 0] 33)).alloc (.cells #[.int .i64 a, .int .i64 p] 30)).alloc (.cells #[.int .i64 b, .int .i64 q] 30))) := bel_alloc (bel_alloc (bel_alloc (bel_alloc (Below.refl _ _))))
    replace TR := Lib.hid (TR.out.below (bel_drew _))
    replace T1 := Lib.hid (T1.out.below (bel_drew _))
    replace T2 := Lib.hid (T2.out.below (bel_drew _))
    replace HB := Lib.hid (bel_trans HB.out (bel_drew _))
    generalize ((((w.alloc (.cells #[.int .i64 a, .int .i64 p, .int .i64 b, .int .i64 q] 51)).alloc (.cells #[.int .i64 0, .int .i64 0] 33)).alloc (.cells #[.int .i64 a, .int .i64 p] 30)).alloc (.cells #[.int .i64 b, .int .i64 q] 30)).drew = wa at *
    obtain ⟨t0, t1, t2, t3, t4⟩ := T1.out
    obtain ⟨s0, s1, s2, s3, s4⟩ := T2.out
    go_wp2_with fail
    replace TR := Lib.hid ((((TR.out.apart (w.heap.size + 1 + 1) 0 (.int .i64 b) (by omega)).apart (w.heap.size + 1 + 1) 1 (.int .i64 q) (by omega)).apart (w.heap.size + 1 + 1 + 1) 0 (.int .i64 a) (by omega)).apart (w.heap.size + 1 + 1 + 1) 1 (.int .i64 p) (by omega))
    replace T1 := Lib.hid ((T1.out.both (.int .i64 b) (.int .i64 q)).apart (w.heap.size + 1 + 1 + 1) 0 (.int .i64 a) (by omega) |>.apart (w.heap.size + 1 + 1 + 1) 1 (.int .i64 p) (by omega))
    replace T2 := Lib.hid (((T2.out.apart (w.heap.size + 1 + 1) 0 (.int .i64 b) (by omega)).apart (w.heap.size + 1 + 1) 1 (.int .i64 q) (by omega)).both (.int .i64 a) (.int .i64 p))
    replace HB := Lib.hid ((((HB.out.setCell (p := ⟨w.heap.size + 1 + 1, 0, none⟩) (by show w.heap.size ≤ w.heap.size + 1 + 1; omega) (.int .i64 b)).setCell (p := ⟨w.heap.size + 1 + 1, 1, none⟩) (by show w.heap.size ≤ w.heap.size + 1 + 1; omega) (.int .i64 q)).setCell (p := ⟨w.heap.size + 1 + 1 + 1, 0, none⟩) (by show w.heap.size ≤ w.heap.size + 1 + 1 + 1; omega) (.int .i64 a)).setCell (p := ⟨w.heap.size + 1 + 1 + 1, 1, none⟩) (by show w.heap.size ≤ w.heap.size + 1 + 1 + 1; omega) (.int .i64 p))
    clear t0 t1 t2 t3 t4 s0 s1 s2 s3 s4
    generalize ((((wa.setCell ⟨w.heap.size + 1 + 1, 0, none⟩ (.int .i64 b)).setCell ⟨w.heap.size + 1 + 1, 1, none⟩ (.int .i64 q)).setCell ⟨w.heap.size + 1 + 1 + 1, 0, none⟩ (.int .i64 a)).setCell ⟨w.heap.size + 1 + 1 + 1, 1, none⟩ (.int .i64 p)) = wc at *
    obtain ⟨t0, t1, t2, t3, t4⟩ := T1.out
    obtain ⟨s0, s1, s2, s3, s4⟩ := T2.out
    go_quiet ((go_at_call 44; refine Calls.quiet_of_same (HD.out _ _ _ ⟨by omega, by omega, by omega, by omega⟩)))
    replace TR := Lib.hid (TR.out.below (bel_drewN _ nq))
    replace T1 := Lib.hid (T1.out.below (bel_drewN _ nq))
    replace HB := Lib.hid (bel_trans HB.out (bel_drewN _ nq))
    generalize wc.drewN nq = wb at *
    clear t0 t1 t2 t3 t4 s0 s1 s2 s3 s4
    go_wp2_with fail
    refine (H3.out _).mono ?_
    rintro e w4 ⟨R, rfl, h1⟩
    replace TR := Lib.hid (TR.out.below h1)
    replace T1 := Lib.hid (T1.out.below h1)
    replace HB := Lib.hid (bel_trans HB.out h1); clear h1
    go_wp2_with fail
    refine (H4.out _).mono ?_
    rintro e w5 ⟨rfl, h1⟩
    replace TR := Lib.hid (TR.out.below h1)
    replace T1 := Lib.hid (T1.out.below h1)
    replace HB := Lib.hid (bel_trans HB.out h1); clear h1
    obtain ⟨t0, t1, _, _, _⟩ := T1.out
    obtain ⟨r0, r1, r2, r3, _⟩ := TR.out
    go_wp2
    obtain ⟨z0, z1⟩ := two_read w5 (w.heap.size + 1) (.int .i64 (q + Q)) (.int .i64 (q + V)) r0 r1
    refine bodyPost_ret (v := .agg #[.int .i64 (q + Q), .int .i64 (q + V)]) (by simp [results, Try.results36, go_sem, z0, z1]) rfl ?_
    exact ⟨rfl, (HB.out.setCell (p := ⟨w.heap.size + 1, 0, none⟩) (Nat.le_succ _) _).setCell (p := ⟨w.heap.size + 1, 1, none⟩) (Nat.le_succ _) _⟩
  · have TR : Hid (Two (w.heap.size + 1) ((((w.alloc (.cells #[.int .i64 a, .int .i64 p, .int .i64 b, .int .i64 q] 51)).alloc (.cells #[.int .i64 0, .int .i64 0] 33)).alloc (.cells #[.int .i64 b, .int .i64 q] 30)).alloc (.cells #[.int .i64 a, .int .i64 p] 30)) (.int .i64 0) (.int .i64 0)) := by
      have := ((Two.new (w.alloc (.cells #[.int .i64 a, .int .i64 p, .int .i64 b, .int .i64 q] 51)) (.int .i64 0) (.int .i64 0) 33).alloc (.cells #[.int .i64 b, .int .i64 q] 30)).alloc (.cells #[.int .i64 a, .int .i64 p] 30)
      rwa [World.size_alloc] at this
    have T1 : Hid (Two (w.heap.size + 1 + 1) ((((w.alloc (.cells #[.int .i64 a, .int .i64 p, .int .i64 b, .int .i64 q] 51)).alloc (.cells #[.int .i64 0, .int .i64 0] 33)).alloc (.cells #[.int .i64 b, .int .i64 q] 30)).alloc (.cells #[.int .i64 a, .int .i64 p] 30)) (.int .i64 b) (.int .i64 q)) := by
      have := (Two.new ((w.alloc (.cells #[.int .i64 a, .int .i64 p, .int .i64 b, .int .i64 q] 51)).alloc (.cells #[.int .i64 0, .int .i64 0] 33)) (.int .i64 b) (.int .i64 q) 30).alloc (.cells #[.int .i64 a, .int .i64 p] 30)
      rwa [World.size_alloc, World.size_alloc] at this
    have T2 : Hid (Two (w.heap.size + 1 + 1 + 1) ((((w.alloc (.cells #[.int .i64 a, .int .i64 p, .int .i64 b, .int .i64 q] 51)).alloc (.cells #[.int .i64 0, .int .i64 0] 33)).alloc (.cells #[.int .i64 b, .int .i64 q] 30)).alloc (.cells #[.int .i64 a, .int .i64 p] 30)) (.int .i64 a) (.int .i64 p)) := by
      have := Two.new (((w.alloc (.cells #[.int .i64 a, .int .i64 p, .int .i64 b, .int .i64 q] 51)).alloc (.cells #[.int .i64 0, .int .i64 0] 33)).alloc (.cells #[.int .i64 b, .int .i64 q] 30)) (.int .i64 a) (.int .i64 p) 30
      rwa [World.size_alloc, World.size_alloc, World.size_alloc] at this
    have HB : Hid (Below w.heap.size w ((((w.alloc (.cells #[.int .i64 a, .int .i64 p, .int .i64 b, .int .i64 q] 51)).alloc (.cells #[.int .i64 0, .int .i64 0] 33)).alloc (.cells #[.int .i64 b, .int .i64 q] 30)).alloc (.cells #[.int .i64 a, .int .i64 p] 30))) := bel_alloc (bel_alloc (bel_alloc (bel_alloc (Below.refl _ _))))
    replace TR := Lib.hid (TR.out.below (bel_drew _))
    replace T1 := Lib.hid (T1.out.below (bel_drew _))
    replace T2 := Lib.hid (T2.out.below (bel_drew _))
    replace HB := Lib.hid (bel_trans HB.out (bel_drew _))
    generalize ((((w.alloc (.cells #[.int .i64 a, .int .i64 p, .int .i64 b, .int .i64 q] 51)).alloc (.cells #[.int .i64 0, .int .i64 0] 33)).alloc (.cells #[.int .i64 b, .int .i64 q] 30)).alloc (.cells #[.int .i64 a, .int .i64 p] 30)).drew = wa at *
    obtain ⟨t0, t1, t2, t3, t4⟩ := T1.out
    obtain ⟨s0, s1, s2, s3, s4⟩ := T2.out
    go_wp2_with fail
    replace TR := Lib.hid ((((TR.out.apart (w.heap.size + 1 + 1 + 1) 0 (.int .i64 b) (by omega)).apart (w.heap.size + 1 + 1 + 1) 1 (.int .i64 q) (by omega)).apart (w.heap.size + 1 + 1) 0 (.int .i64 a) (by omega)).apart (w.heap.size + 1 + 1) 1 (.int .i64 p) (by omega))
    replace T2 := Lib.hid ((T2.out.both (.int .i64 b) (.int .i64 q)).apart (w.heap.size + 1 + 1) 0 (.int .i64 a) (by omega) |>.apart (w.heap.size + 1 + 1) 1 (.int .i64 p) (by omega))
    replace T1 := Lib.hid (((T1.out.apart (w.heap.size + 1 + 1 + 1) 0 (.int .i64 b) (by omega)).apart (w.heap.size + 1 + 1 + 1) 1 (.int .i64 q) (by omega)).both (.int .i64 a) (.int .i64 p))
    replace HB := Lib.hid ((((HB.out.setCell (p := ⟨w.heap.size + 1 + 1 + 1, 0, none⟩) (by show w.heap.size ≤ w.heap.size + 1 + 1 + 1; omega) (.int .i64 b)).setCell (p := ⟨w.heap.size + 1 + 1 + 1, 1, none⟩) (by show w.heap.size ≤ w.heap.size + 1 + 1 + 1; omega) (.int .i64 q)).setCell (p := ⟨w.heap.size + 1 + 1, 0, none⟩) (by show w.heap.size ≤ w.heap.size + 1 + 1; omega) (.int .i64 a)).setCell (p := ⟨w.heap.size + 1 + 1, 1, none⟩) (by show w.heap.size ≤ w.heap.size + 1 + 1; omega) (.int .i64 p))
    clear t0 t1 t2 t3 t4 s0 s1 s2 s3 s4
    generalize ((((wa.setCell ⟨w.heap.size + 1 + 1 + 1, 0, none⟩ (.int .i64 b)).setCell ⟨w.heap.size + 1 + 1 + 1, 1, none⟩ (.int .i64 q)).setCell ⟨w.heap.size + 1 + 1, 0, none⟩ (.int .i64 a)).setCell ⟨w.heap.size + 1 + 1, 1, none⟩ (.int .i64 p)) = wc at *
    obtain ⟨t0, t1, t2, t3, t4⟩ := T1.out
    obtain ⟨s0, s1, s2, s3, s4⟩ := T2.out
    go_quiet ((go_at_call 44; refine Calls.quiet_of_same (HD.out _ _ _ ⟨by omega, by omega, by omega, by omega⟩)))
    replace TR := Lib.hid (TR.out.below (bel_drewN _ nq))
    replace T2 := Lib.hid (T2.out.below (bel_drewN _ nq))
    replace HB := Lib.hid (bel_trans HB.out (bel_drewN _ nq))
    generalize wc.drewN nq = wb at *
    clear t0 t1 t2 t3 t4 s0 s1 s2 s3 s4
    go_wp2_with fail
    refine (H3.out _).mono ?_
    rintro e w4 ⟨R, rfl, h1⟩
    replace TR := Lib.hid (TR.out.below h1)
    replace T2 := Lib.hid (T2.out.below h1)
    replace HB := Lib.hid (bel_trans HB.out h1); clear h1
    go_wp2_with fail
    refine (H4.out _).mono ?_
    rintro e w5 ⟨rfl, h1⟩
    replace TR := Lib.hid (TR.out.below h1)
    replace T2 := Lib.hid (T2.out.below h1)
    replace HB := Lib.hid (bel_trans HB.out h1); clear h1
    obtain ⟨t0, t1, _, _, _⟩ := T2.out
    obtain ⟨r0, r1, r2, r3, _⟩ := TR.out
    go_wp2
    obtain ⟨z0, z1⟩ := two_read w5 (w.heap.size + 1) (.int .i64 (q + Q)) (.int .i64 (q + V)) r0 r1
    refine bodyPost_ret (v := .agg #[.int .i64 (q + Q), .int .i64 (q + V)]) (by simp [results, Try.results36, go_sem, z0, z1]) rfl ?_
    exact ⟨rfl, (HB.out.setCell (p := ⟨w.heap.size + 1, 0, none⟩) (Nat.le_succ _) _).setCell (p := ⟨w.heap.size + 1, 1, none⟩) (Nat.le_succ _) _⟩
theorem at_any (a p b q x : Int) (w : World) (a0 : 0 ≤ a) (ab : a < b) (b1 : b ≤ 100000) (p0 : 0 ≤ p) (p1 : p ≤ 100000) (q0 : 0 ≤ q) (q1 : q ≤ 100000) (x0 : a ≤ x) (x1 : x ≤ b) :
    Calls Try.prog 36 #[.agg #[.int .i64 a, .int .i64 p, .int .i64 b, .int .i64 q], .int .i64 x] w fun e w' => e = .returned (.agg #[.int .i64 (lnL a p b q x), .int .i64 (lnH a p b q x)]) ∧ Below w.heap.size w w' := by
  have hd : 1 ≤ b - a ∧ b - a ≤ 100000 := by omega
  by_cases h : p ≤ q
  · obtain ⟨f1, f2, f3, f4⟩ := prop_facts (a := q - p) (b := x - a) (c := b - a) (by omega) (by omega) hd
    have bt := ln_between (p := p) (q := q) ab x0 x1
    have e := ln_up (p := p) (q := q) (x := x) ab
    have e1 : lnL a p b q x = lnN a p b q x / (b - a) := rfl
    have e2 : lnH a p b q x = cdv (lnN a p b q x) (b - a) := rfl
    have fc := fl_cl (lnN a p b q x) (b - a) (by omega)
    rw [e.1, e.2]
    refine at_up a p b q x _ _ w a0 ab b1 p0 p1 q0 h q1 (by omega) (by omega) (by omega) (by omega) x0 x1 (by omega) (by omega) (Lib.hid fun u v W h => dist_any u v W h.1 h.2.1 h.2.2.1 h.2.2.2) (fun W => ?_) (fun W => ?_)
    · have := of_any (q - p) (x - a) (b - a) W
      rw [f1, f2] at this
      exact this.mono fun _ _ g => ⟨_, g.1, g.2⟩
    · have := up_any (q - p) (x - a) (b - a) W
      rw [f3, f4] at this
      exact this
  · obtain ⟨f1, f2, f3, f4⟩ := prop_facts (a := p - q) (b := b - x) (c := b - a) (by omega) (by omega) hd
    have bt := ln_between (p := p) (q := q) ab x0 x1
    have e := ln_dn (p := p) (q := q) (x := x) ab
    have e1 : lnL a p b q x = lnN a p b q x / (b - a) := rfl
    have e2 : lnH a p b q x = cdv (lnN a p b q x) (b - a) := rfl
    have fc := fl_cl (lnN a p b q x) (b - a) (by omega)
    rw [e.1, e.2]
    refine at_dn a p b q x _ _ w a0 ab b1 p0 p1 q0 (by omega) q1 (by omega) (by omega) (by omega) (by omega) x0 x1 (by omega) (by omega) (Lib.hid fun u v W h => dist_any u v W h.1 h.2.1 h.2.2.1 h.2.2.2) (fun W => ?_) (fun W => ?_)
    · have := of_any (p - q) (b - x) (b - a) W
      rw [f1, f2] at this
      exact this.mono fun _ _ g => ⟨_, g.1, g.2⟩
    · have := up_any (p - q) (b - x) (b - a) W
      rw [f3, f4] at this
      exact this
end Go.Proofs.Ytlofblpfohnooab
