/- Texts that the proofs of this seat share, one behind the other: PPG, PPH, PPI, PPJ, KA, PF, PG, PI0, CM, CG, KX, CRB, CRC, KT, KAW, PO0, KO, KZ, KW, U8. -/
import Derived.Test.YtpnlfeljmpfeoabM1
import Derived.Test.YtpnlfeljmpfeoabM2
import Derived.Deep.QuietTactic
import Derived.BigQuiet
import Derived.Deep.RegionLaw
import Derived.Deep.RegionLawGrows
import Derived.Laws.AppendOwn
import Derived.Test.YtpnlfeljmpfeoabShelfR
import Derived.StillTailTactics
import Derived.StillTactics
import Derived.ArgAppend
import Derived.RangeFuncBox
import Derived.Maps.AppendAt
import Derived.Deep.Upon
import Derived.Test.YtpnlfeljmpfeoabRows
import Derived.ProofKit
import Derived.OpenShut
import Derived.ShutString
import Derived.ChangeOld
import Derived.Lib.SmallJoins
import Derived.MakeChecks
import Derived.Deep.Slices
import Derived.Deep.Fields
import Derived.ChangeSame
import Derived.Deep.SlicePairs

set_option linter.unusedVariables false
set_option linter.unusedSimpArgs false

/- Package profile: distances, the radius on a piece, At. -/
namespace Go.Proofs.Ytpnlfeljmpfeoab
open Go.RowKit

theorem cdv_of {n d : Int} (h : 0 < d) : cdv n d = n / d + (if 0 < n % d then 1 else 0) := by
  have h1 := Int.emod_add_mul_ediv n d
  have h2 := Int.emod_lt_of_pos n h
  have h3 := Int.emod_nonneg n (show d ≠ 0 by omega)
  rw [Int.mul_comm] at h1
  apply Int.le_antisymm
  · rw [cl_iff _ _ _ h, Int.add_mul]
    by_cases g : 0 < n % d
    · rw [if_pos g]; omega
    · rw [if_neg g]; omega
  · by_cases g : 0 < n % d
    · rw [if_pos g]
      have : ¬ cdv n d ≤ n / d := fun hh => by
        rw [cl_iff _ _ _ h] at hh
        omega
      omega
    · rw [if_neg g]
      have := (fl_cl n d h).1
      omega
theorem cdv_add (m p d : Int) (h : 0 < d) : cdv (m + p * d) d = cdv m d + p := by
  unfold cdv
  rw [show m + p * d + d - 1 = m + d - 1 + p * d by omega]
  exact Int.add_mul_ediv_right _ _ (by omega)
theorem ln_up {a p b q x : Int} (hab : a < b) : lnL a p b q x = p + (q - p) * (x - a) / (b - a) ∧ lnH a p b q x = p + cdv ((q - p) * (x - a)) (b - a) := by
  unfold lnL lnH lnN
  rw [Int.add_comm (p * (b - a)), Int.add_mul_ediv_right _ _ (by omega), cdv_add _ _ _ (by omega)]
  omega
theorem ln_dn {a p b q x : Int} (hab : a < b) : lnL a p b q x = q + (p - q) * (b - x) / (b - a) ∧ lnH a p b q x = q + cdv ((p - q) * (b - x)) (b - a) := by
  have e : lnN a p b q x = (p - q) * (b - x) + q * (b - a) := by unfold lnN; grind
  unfold lnL lnH
  rw [e, Int.add_mul_ediv_right _ _ (by omega), cdv_add _ _ _ (by omega)]
  omega
theorem prop_facts {a b c : Int} (ha : 0 ≤ a ∧ a ≤ 100000) (hb : 0 ≤ b ∧ b ≤ 100000) (hc : 1 ≤ c ∧ c ≤ 100000) :
    ofE a b c = 0 ∧ ofQ a b c = a * b / c ∧ upQ (ofQ a b c) (ofR a b c) (ofE a b c) = cdv (a * b) c ∧ upE (ofQ a b c) (ofR a b c) (ofE a b c) = 0 := by
  have m0 : 0 ≤ a * b := Int.mul_nonneg ha.1 hb.1
  have m1 : a * b ≤ 100000 * 100000 := Int.mul_le_mul ha.2 hb.2 hb.1 (by omega)
  have q1 : a * b / c ≤ a * b := Int.ediv_le_self _ m0
  have i : (isAm a && isAm b && isAm c) = true := by
    simp only [isAm, Bool.and_eq_true, decide_eq_true_eq]
    omega
  have e : ofE a b c = 0 := by
    unfold ofE
    rw [if_pos i, if_neg (by omega), if_pos (by omega)]
  have eq : ofQ a b c = a * b / c := by unfold ofQ; rw [if_pos e]
  have er : ofR a b c = a * b % c := by unfold ofR; rw [if_pos e]
  have ue : upE (ofQ a b c) (ofR a b c) (ofE a b c) = 0 := by
    unfold upE
    rw [if_pos e, if_pos]
    rw [eq]
    split <;> omega
  refine ⟨e, eq, ?_, ue⟩
  unfold upQ
  rw [if_pos ue, eq, er, cdv_of (by omega)]

theorem dist_any (a b : Int) (w : World) (a0 : 0 ≤ a) (a1 : a ≤ 100000) (b0 : 0 ≤ b) (b1 : b ≤ 100000) :
    Calls Try.prog 65 #[.int .i64 a, .int .i64 b] w fun e w' => e = .returned (.int .i64 (max (a - b) (b - a))) ∧ w' = w := by
  have w1 : IntKind.i64.wrap (a - b) = a - b := wrap_in _ ⟨by omega, by omega⟩
  have w2 : IntKind.i64.wrap (b - a) = b - a := wrap_in _ ⟨by omega, by omega⟩
  go_enter Try.func65, Try.ntmps65
  go_wp2
  go_ret
  exact ⟨rfl, rfl⟩

set_option maxRecDepth 100000 in
set_option maxHeartbeats 16000000 in
theorem at_up (a p b q x Q V : Int) (w : World) (a0 : 0 ≤ a) (ab : a < b) (b1 : b ≤ 100000) (p0 : 0 ≤ p) (p1 : p ≤ 100000) (q0 : 0 ≤ q) (pq : p ≤ q) (q1 : q ≤ 100000) (hQ0 : 0 ≤ Q) (hQ : Q ≤ 100000) (hV0 : 0 ≤ V) (hV : V ≤ 100000)
    (x0 : a ≤ x) (x1 : x ≤ b) (m1 : max (a - x) (x - a) = (x - a)) (m2 : max (a - b) (b - a) = b - a)
    (HD : Hid (∀ u v W, (0 ≤ u ∧ u ≤ 100000 ∧ 0 ≤ v ∧ v ≤ 100000) → Calls Try.prog 65 #[.int .i64 u, .int .i64 v] W fun e w' => e = .returned (.int .i64 (max (u - v) (v - u))) ∧ w' = W))
    (H3 : Hid (∀ W, Calls Try.prog 41 #[.int .i64 (q - p), .int .i64 (x - a), .int .i64 (b - a)] W fun e w' => ∃ R, e = .returned (.tuple #[.int .i64 Q, .int .i64 R, .int .i64 0]) ∧ Below W.heap.size W w'))
    (H4 : Hid (∀ W, Calls Try.prog 66 #[.int .i64 (q - p), .int .i64 (x - a), .int .i64 (b - a)] W fun e w' => e = .returned (.tuple #[.int .i64 V, .int .i64 0]) ∧ Below W.heap.size W w')) :
    Calls Try.prog 49 #[.agg #[.int .i64 a, .int .i64 p, .int .i64 b, .int .i64 q], .int .i64 x] w fun e w' => e = .returned (.agg #[.int .i64 (p + Q), .int .i64 (p + V)]) ∧ Below w.heap.size w w' := by
  have w1 : IntKind.i64.wrap (q - p) = (q - p) := wrap_in _ ⟨by omega, by omega⟩
  have w2 : IntKind.i64.wrap (p + Q) = p + Q := wrap_in _ ⟨by omega, by omega⟩
  have w3 : IntKind.i64.wrap (p + V) = p + V := wrap_in _ ⟨by omega, by omega⟩
  go_enter Try.func49, Try.ntmps49
  go_wp2_with fail
  go_region
  · have TR : Hid (Two (w.heap.size + 1) ((((w.alloc (.cells #[.int .i64 a, .int .i64 p, .int .i64 b, .int .i64 q] 65)).alloc (.cells #[.int .i64 0, .int .i64 0] 32)).alloc (.cells #[.int .i64 a, .int .i64 p] 30)).alloc (.cells #[.int .i64 b, .int .i64 q] 30)) (.int .i64 0) (.int .i64 0)) := by
      have := ((Two.new (w.alloc (.cells #[.int .i64 a, .int .i64 p, .int .i64 b, .int .i64 q] 65)) (.int .i64 0) (.int .i64 0) 32).alloc (.cells #[.int .i64 a, .int .i64 p] 30)).alloc (.cells #[.int .i64 b, .int .i64 q] 30)
      rwa [World.size_alloc] at this
    have T1 : Hid (Two (w.heap.size + 1 + 1) ((((w.alloc (.cells #[.int .i64 a, .int .i64 p, .int .i64 b, .int .i64 q] 65)).alloc (.cells #[.int .i64 0, .int .i64 0] 32)).alloc (.cells #[.int .i64 a, .int .i64 p] 30)).alloc (.cells #[.int .i64 b, .int .i64 q] 30)) (.int .i64 a) (.int .i64 p)) := by
      have := (Two.new ((w.alloc (.cells #[.int .i64 a, .int .i64 p, .int .i64 b, .int .i64 q] 65)).alloc (.cells #[.int .i64 0, .int .i64 0] 32)) (.int .i64 a) (.int .i64 p) 30).alloc (.cells #[.int .i64 b, .int .i64 q] 30)
      rwa [World.size_alloc, World.size_alloc] at this
    have T2 : Hid (Two (w.heap.size + 1 + 1 + 1) ((((w.alloc (.cells #[.int .i64 a, .int .i64 p, .int .i64 b, .int .i64 q] 65)).alloc (.cells #[.int .i64 0, .int .i64 0] 32)).alloc (.cells #[.int .i64 a, .int .i64 p] 30)).alloc (.cells #[.int .i64 b, .int .i64 q] 30)) (.int .i64 b) (.int .i64 q)) := by
      have := Two.new (((w.alloc (.cells #[.int .i64 a, .int .i64 p, .int .i64 b, .int .i64 q] 65)).alloc (.cells #[.int .i64 0, .int .i64 0] 32)).alloc (.cells #[.int .i64 a, .int .i64 p] 30)) (.int .i64 b) (.int .i64 q) 30
      rwa [World.size_alloc, World.size_alloc, World.size_alloc] at this
    have HB : Hid (Below w.heap.size w ((((w.alloc (.cells #[.int .i64 a, .int .i64 p, .int .i64 b, .int .i64 q] 65)).alloc (.cells #[.int .i64 0, .int .i64 0] 32)).alloc (.cells #[.int .i64 a, .int .i64 p] 30)).alloc (.cells #[.int .i64 b, .int .i64 q] 30))) := bel_alloc (bel_alloc (bel_alloc (bel_alloc (Below.refl _ _))))
    replace TR := Lib.hid (TR.out.below (bel_drew _))
    replace T1 := Lib.hid (T1.out.below (bel_drew _))
    replace T2 := Lib.hid (T2.out.below (bel_drew _))
    replace HB := Lib.hid (bel_trans HB.out (bel_drew _))
    generalize ((((w.alloc (.cells #[.int .i64 a, .int .i64 p, .int .i64 b, .int .i64 q] 65)).alloc (.cells #[.int .i64 0, .int .i64 0] 32)).alloc (.cells #[.int .i64 a, .int .i64 p] 30)).alloc (.cells #[.int .i64 b, .int .i64 q] 30)).drew = wa at *
    obtain ⟨t0, t1, t2, t3, t4⟩ := T1.out
    obtain ⟨s0, s1, s2, s3, s4⟩ := T2.out
    go_wp2_with fail
    go_quiet ((go_at_call 65; refine Calls.quiet_of_same (HD.out _ _ _ ⟨by omega, by omega, by omega, by omega⟩)))
    replace TR := Lib.hid (TR.out.below (bel_drewN _ nq))
    replace T1 := Lib.hid (T1.out.below (bel_drewN _ nq))
    replace HB := Lib.hid (bel_trans HB.out (bel_drewN _ nq))
    generalize wa.drewN nq = wb at *
    clear t0 t1 t2 t3 t4 s0 s1 s2 s3 s4
    go_wp2_with fail
    refine (H3.out _).mono ?_
    rintro e w4 ⟨R, rfl, h1⟩
    replace TR := Lib.hid (TR.out.below h1)
    replace T1 := Lib.hid (T1.out.below h1)
    replace HB := Lib.hid (bel_trans HB.out h1); clear h1
    go_wp2_with fail
    refine (H4.out _).mono ?_
    rintro e w5 ⟨rfl, h1⟩
    replace TR := Lib.hid (TR.out.below h1)
    replace T1 := Lib.hid (T1.out.below h1)
    replace HB := Lib.hid (bel_trans HB.out h1); clear h1
    obtain ⟨t0, t1, _, _, _⟩ := T1.out
    obtain ⟨r0, r1, r2, r3, _⟩ := TR.out
    go_wp2
    obtain ⟨z0, z1⟩ := two_read w5 (w.heap.size + 1) (.int .i64 (p + Q)) (.int .i64 (p + V)) r0 r1
    refine bodyPost_ret (v := .agg #[.int .i64 (p + Q), .int .i64 (p + V)]) (by simp [results, Try.results49, go_sem, z0, z1]) rfl ?_
    exact ⟨rfl, (HB.out.setCell (p := ⟨w.heap.size + 1, 0, none⟩) (Nat.le_succ _) _).setCell (p := ⟨w.heap.size + 1, 1, none⟩) (Nat.le_succ _) _⟩
  · have TR : Hid (Two (w.heap.size + 1) ((((w.alloc (.cells #[.int .i64 a, .int .i64 p, .int .i64 b, .int .i64 q] 65)).alloc (.cells #[.int .i64 0, .int .i64 0] 32)).alloc (.cells #[.int .i64 b, .int .i64 q] 30)).alloc (.cells #[.int .i64 a, .int .i64 p] 30)) (.int .i64 0) (.int .i64 0)) := by
      have := ((Two.new (w.alloc (.cells #[.int .i64 a, .int .i64 p, .int .i64 b, .int .i64 q] 65)) (.int .i64 0) (.int .i64 0) 32).alloc (.cells #[.int .i64 b, .int .i64 q] 30)).alloc (.cells #[.int .i64 a, .int .i64 p] 30)
      rwa [World.size_alloc] at this
    have T1 : Hid (Two (w.heap.size + 1 + 1) ((((w.alloc (.cells #[.int .i64 a, .int .i64 p, .int .i64 b, .int .i64 q] 65)).alloc (.cells #[.int .i64 0, .int .i64 0] 32)).alloc (.cells #[.int .i64 b, .int .i64 q] 30)).alloc (.cells #[.int .i64 a, .int .i64 p] 30)) (.int .i64 b) (.int .i64 q)) := by
      have := (Two.new ((w.alloc (.cells #[.int .i64 a, .int .i64 p, .int .i64 b, .int .i64 q] 65)).alloc (.cells #[.int .i64 0, .int .i64 0] 32)) (.int .i64 b) (.int .i64 q) 30).alloc (.cells #[.int .i64 a, .int .i64 p] 30)
      rwa [World.size_alloc, World.size_alloc] at this
    have T2 : Hid (Two (w.heap.size + 1 + 1 + 1) ((((w.alloc (.cells #[.int .i64 a, .int .i64 p, .int .i64 b, .int .i64 q] 65)).alloc (.cells #[.int .i64 0, .int .i64 0] 32)).alloc (.cells #[.int .i64 b, .int .i64 q] 30)).alloc (.cells #[.int .i64 a, .int .i64 p] 30)) (.int .i64 a) (.int .i64 p)) := by
      have := Two.new (((w.alloc (.cells #[.int .i64 a, .int .i64 p, .int .i64 b, .int .i64 q] 65)).alloc (.cells #[.int .i64 0, .int .i64 0] 32)).alloc (.cells #[.int .i64 b, .int .i64 q] 30)) (.int .i64 a) (.int .i64 p) 30
      rwa [World.size_alloc, World.size_alloc, World.size_alloc] at this
    have HB : Hid (Below w.heap.size w ((((w.alloc (.cells #[.int .i64 a, .int .i64 p, .int .i64 b, .int .i64 q] 65)).alloc (.cells #[.int .i64 0, .int .i64 0] 32)).alloc (.cells #[.int .i64 b, .int .i64 q] 30)).alloc (.cells #[.int .i64 a, .int .i64 p] 30))) := bel_alloc (bel_alloc (bel_alloc (bel_alloc (Below.refl _ _))))
    replace TR := Lib.hid (TR.out.below (bel_drew _))
    replace T1 := Lib.hid (T1.out.below (bel_drew _))
    replace T2 := Lib.hid (T2.out.below (bel_drew _))
    replace HB := Lib.hid (bel_trans HB.out (bel_drew _))
    generalize ((((w.alloc (.cells #[.int .i64 a, .int .i64 p, .int .i64 b, .int .i64 q] 65)).alloc (.cells #[.int .i64 0, .int .i64 0] 32)).alloc (.cells #[.int .i64 b, .int .i64 q] 30)).alloc (.cells #[.int .i64 a, .int .i64 p] 30)).drew = wa at *
    obtain ⟨t0, t1, t2, t3, t4⟩ := T1.out
    obtain ⟨s0, s1, s2, s3, s4⟩ := T2.out
    go_wp2_with fail
    go_quiet ((go_at_call 65; refine Calls.quiet_of_same (HD.out _ _ _ ⟨by omega, by omega, by omega, by omega⟩)))
    replace TR := Lib.hid (TR.out.below (bel_drewN _ nq))
    replace T2 := Lib.hid (T2.out.below (bel_drewN _ nq))
    replace HB := Lib.hid (bel_trans HB.out (bel_drewN _ nq))
    generalize wa.drewN nq = wb at *
    clear t0 t1 t2 t3 t4 s0 s1 s2 s3 s4
    go_wp2_with fail
    refine (H3.out _).mono ?_
    rintro e w4 ⟨R, rfl, h1⟩
    replace TR := Lib.hid (TR.out.below h1)
    replace T2 := Lib.hid (T2.out.below h1)
    replace HB := Lib.hid (bel_trans HB.out h1); clear h1
    go_wp2_with fail
    refine (H4.out _).mono ?_
    rintro e w5 ⟨rfl, h1⟩
    replace TR := Lib.hid (TR.out.below h1)
    replace T2 := Lib.hid (T2.out.below h1)
    replace HB := Lib.hid (bel_trans HB.out h1); clear h1
    obtain ⟨t0, t1, _, _, _⟩ := T2.out
    obtain ⟨r0, r1, r2, r3, _⟩ := TR.out
    go_wp2
    obtain ⟨z0, z1⟩ := two_read w5 (w.heap.size + 1) (.int .i64 (p + Q)) (.int .i64 (p + V)) r0 r1
    refine bodyPost_ret (v := .agg #[.int .i64 (p + Q), .int .i64 (p + V)]) (by simp [results, Try.results49, go_sem, z0, z1]) rfl ?_
    exact ⟨rfl, (HB.out.setCell (p := ⟨w.heap.size + 1, 0, none⟩) (Nat.le_succ _) _).setCell (p := ⟨w.heap.size + 1, 1, none⟩) (Nat.le_succ _) _⟩
set_option maxRecDepth 100000 in
set_option maxHeartbeats 16000000 in
theorem at_dn (a p b q x Q V : Int) (w : World) (a0 : 0 ≤ a) (ab : a < b) (b1 : b ≤ 100000) (p0 : 0 ≤ p) (p1 : p ≤ 100000) (q0 : 0 ≤ q) (pq : q < p) (q1 : q ≤ 100000) (hQ0 : 0 ≤ Q) (hQ : Q ≤ 100000) (hV0 : 0 ≤ V) (hV : V ≤ 100000)
    (x0 : a ≤ x) (x1 : x ≤ b) (m1 : max (b - x) (x - b) = (b - x)) (m2 : max (b - a) (a - b) = b - a)
    (HD : Hid (∀ u v W, (0 ≤ u ∧ u ≤ 100000 ∧ 0 ≤ v ∧ v ≤ 100000) → Calls Try.prog 65 #[.int .i64 u, .int .i64 v] W fun e w' => e = .returned (.int .i64 (max (u - v) (v - u))) ∧ w' = W))
    (H3 : Hid (∀ W, Calls Try.prog 41 #[.int .i64 (p - q), .int .i64 (b - x), .int .i64 (b - a)] W fun e w' => ∃ R, e = .returned (.tuple #[.int .i64 Q, .int .i64 R, .int .i64 0]) ∧ Below W.heap.size W w'))
    (H4 : Hid (∀ W, Calls Try.prog 66 #[.int .i64 (p - q), .int .i64 (b - x), .int .i64 (b - a)] W fun e w' => e = .returned (.tuple #[.int .i64 V, .int .i64 0]) ∧ Below W.heap.size W w')) :
    Calls Try.prog 49 #[.agg #[.int .i64 a, .int .i64 p, .int .i64 b, .int .i64 q], .int .i64 x] w fun e w' => e = .returned (.agg #[.int .i64 (q + Q), .int .i64 (q + V)]) ∧ Below w.heap.size w w' := by
  have w1 : IntKind.i64.wrap (p - q) = (p - q) := wrap_in _ ⟨by omega, by omega⟩
  have w2 : IntKind.i64.wrap (q + Q) = q + Q := wrap_in _ ⟨by omega, by omega⟩
  have w3 : IntKind.i64.wrap (q + V) = q + V := wrap_in _ ⟨by omega, by omega⟩
  go_enter Try.func49, Try.ntmps49
  go_wp2_with fail
  go_region
  · have TR : Hid (Two (w.heap.size + 1) ((((w.alloc (.cells #[.int .i64 a, .int .i64 p, .int .i64 b, .int .i64 q] 65)).alloc (.cells #[.int .i64 0, .int .i64 0] 32)).alloc (.cells #[.int .i64 a, .int .i64 p] 30)).alloc (.cells #[.int .i64 b, .int .i64 q] 30)) (.int .i64 0) (.int .i64 0)) := by
      have := ((Two.new (w.alloc (.cells #[.int .i64 a, .int .i64 p, .int .i64 b, .int .i64 q] 65)) (.int .i64 0) (.int .i64 0) 32).alloc (.cells #[.int .i64 a, .int .i64 p] 30)).alloc (.cells #[.int .i64 b, .int .i64 q] 30)
      rwa [World.size_alloc] at this
    have T1 : Hid (Two (w.heap.size + 1 + 1) ((((w.alloc (.cells #[.int .i64 a, .int .i64 p, .int .i64 b, .int .i64 q] 65)).alloc (.cells #[.int .i64 0, .int .i64 0] 32)).alloc (.cells #[.int .i64 a, .int .i64 p] 30)).alloc (.cells #[.int .i64 b, .int .i64 q] 30)) (.int .i64 a) (.int .i64 p)) := by
      have := (Two.new ((w.alloc (.cells #[.int .i64 a, .int .i64 p, .int .i64 b, .int .i64 q] 65)).alloc (.cells #[.int .i64 0, .int .i64 0] 32)) (.int .i64 a) (.int .i64 p) 30).alloc (.cells #[.int .i64 b, .int .i64 q] 30)
      rwa [World.size_alloc, World.size_alloc] at this
    have T2 : Hid (Two (w.heap.size + 1 + 1 + 1) ((((w.alloc (.cells #[.int .i64 a, .int .i64 p, .int .i64 b, .int .i64 q] 65)).alloc (.cells #[.int .i64 0, .int .i64 0] 32)).alloc (.cells #[.int .i64 a, .int .i64 p] 30)).alloc (.cells #[.int .i64 b, .int .i64 q] 30)) (.int .i64 b) (.int .i64 q)) := by
      have := Two.new (((w.alloc (.cells #[.int .i64 a, .int .i64 p, .int .i64 b, .int .i64 q] 65)).alloc (.cells #[.int .i64 0, .int .i64 0] 32)).alloc (.cells #[.int .i64 a, .int .i64 p] 30)) (.int .i64 b) (.int .i64 q) 30
      rwa [World.size_alloc, World.size_alloc, World.size_alloc] at this
    have HB : Hid (Below w.heap.size w ((((w.alloc (.cells #[.int .i64 a, .int .i64 p, .int .i64 b, .int .i64 q] 65)).alloc (.cells #[.int .i64 0, .int .i64 0] 32)).alloc (.cells #[.int .i64 a, .int .i64 p] 30)).alloc (.cells #[.int .i64 b, .int .i64 q] 30))) := bel_alloc (bel_alloc (bel_alloc (bel_alloc (Below.refl _ _))))
    replace TR := Lib.hid (TR.out.below (bel_drew _))
    replace T1 := Lib.hid (T1.out.below (bel_drew _))
    replace T2 := Lib.hid (T2.out.below (bel_drew _))
    replace HB := Lib.hid (bel_trans HB.out (bel_drew _))
    generalize ((((w.alloc (.cells #[.int .i64 a, .int .i64 p, .int .i64 b, .int .i64 q] 65)).alloc (.cells #[.int .i64 0, .int .i64 0] 32)).alloc (.cells #[.int .i64 a, .int .i64 p] 30)).alloc (.cells #[.int .i64 b, .int .i64 q] 30)).drew = wa at *
    obtain ⟨t0, t1, t2, t3, t4⟩ := T1.out
    obtain ⟨s0, s1, s2, s3, s4⟩ := T2.out
    go_wp2_with fail
    replace TR := Lib.hid ((((TR.out.apart (w.heap.size + 1 + 1) 0 (.int .i64 b) (by omega)).apart (w.heap.size + 1 + 1) 1 (.int .i64 q) (by omega)).apart (w.heap.size + 1 + 1 + 1) 0 (.int .i64 a) (by omega)).apart (w.heap.size + 1 + 1 + 1) 1 (.int .i64 p) (by omega))
    replace T1 := Lib.hid ((T1.out.both (.int .i64 b) (.int .i64 q)).apart (w.heap.size + 1 + 1 + 1) 0 (.int .i64 a) (by omega) |>.apart (w.heap.size + 1 + 1 + 1) 1 (.int .i64 p) (by omega))
    replace T2 := Lib.hid (((T2.out.apart (w.heap.size + 1 + 1) 0 (.int .i64 b) (by omega)).apart (w.heap.size + 1 + 1) 1 (.int .i64 q) (by omega)).both (.int .i64 a) (.int .i64 p))
    replace HB := Lib.hid ((((HB.out.setCell (p := ⟨w.heap.size + 1 + 1, 0, none⟩) (by show w.heap.size ≤ w.heap.size + 1 + 1; omega) (.int .i64 b)).setCell (p := ⟨w.heap.size + 1 + 1, 1, none⟩) (by show w.heap.size ≤ w.heap.size + 1 + 1; omega) (.int .i64 q)).setCell (p := ⟨w.heap.size + 1 + 1 + 1, 0, none⟩) (by show w.heap.size ≤ w.heap.size + 1 + 1 + 1; omega) (.int .i64 a)).setCell (p := ⟨w.heap.size + 1 + 1 + 1, 1, none⟩) (by show w.heap.size ≤ w.heap.size + 1 + 1 + 1; omega) (.int .i64 p))
    clear t0 t1 t2 t3 t4 s0 s1 s2 s3 s4
    generalize ((((wa.setCell ⟨w.heap.size + 1 + 1, 0, none⟩ (.int .i64 b)).setCell ⟨w.heap.size + 1 + 1, 1, none⟩ (.int .i64 q)).setCell ⟨w.heap.size + 1 + 1 + 1, 0, none⟩ (.int .i64 a)).setCell ⟨w.heap.size + 1 + 1 + 1, 1, none⟩ (.int .i64 p)) = wc at *
    obtain ⟨t0, t1, t2, t3, t4⟩ := T1.out
    obtain ⟨s0, s1, s2, s3, s4⟩ := T2.out
    go_quiet ((go_at_call 65; refine Calls.quiet_of_same (HD.out _ _ _ ⟨by omega, by omega, by omega, by omega⟩)))
    replace TR := Lib.hid (TR.out.below (bel_drewN _ nq))
    replace T1 := Lib.hid (T1.out.below (bel_drewN _ nq))
    replace HB := Lib.hid (bel_trans HB.out (bel_drewN _ nq))
    generalize wc.drewN nq = wb at *
    clear t0 t1 t2 t3 t4 s0 s1 s2 s3 s4
    go_wp2_with fail
    refine (H3.out _).mono ?_
    rintro e w4 ⟨R, rfl, h1⟩
    replace TR := Lib.hid (TR.out.below h1)
    replace T1 := Lib.hid (T1.out.below h1)
    replace HB := Lib.hid (bel_trans HB.out h1); clear h1
    go_wp2_with fail
    refine (H4.out _).mono ?_
    rintro e w5 ⟨rfl, h1⟩
    replace TR := Lib.hid (TR.out.below h1)
    replace T1 := Lib.hid (T1.out.below h1)
    replace HB := Lib.hid (bel_trans HB.out h1); clear h1
    obtain ⟨t0, t1, _, _, _⟩ := T1.out
    obtain ⟨r0, r1, r2, r3, _⟩ := TR.out
    go_wp2
    obtain ⟨z0, z1⟩ := two_read w5 (w.heap.size + 1) (.int .i64 (q + Q)) (.int .i64 (q + V)) r0 r1
    refine bodyPost_ret (v := .agg #[.int .i64 (q + Q), .int .i64 (q + V)]) (by simp [results, Try.results49, go_sem, z0, z1]) rfl ?_
    exact ⟨rfl, (HB.out.setCell (p := ⟨w.heap.size + 1, 0, none⟩) (Nat.le_succ _) _).setCell (p := ⟨w.heap.size + 1, 1, none⟩) (Nat.le_succ _) _⟩
  · have TR : Hid (Two (w.heap.size + 1) ((((w.alloc (.cells #[.int .i64 a, .int .i64 p, .int .i64 b, .int .i64 q] 65)).alloc (.cells #[.int .i64 0, .int .i64 0] 32)).alloc (.cells #[.int .i64 b, .int .i64 q] 30)).alloc (.cells #[.int .i64 a, .int .i64 p] 30)) (.int .i64 0) (.int .i64 0)) := by
      have := ((Two.new (w.alloc (.cells #[.int .i64 a, .int .i64 p, .int .i64 b, .int .i64 q] 65)) (.int .i64 0) (.int .i64 0) 32).alloc (.cells #[.int .i64 b, .int .i64 q] 30)).alloc (.cells #[.int .i64 a, .int .i64 p] 30)
      rwa [World.size_alloc] at this
    have T1 : Hid (Two (w.heap.size + 1 + 1) ((((w.alloc (.cells #[.int .i64 a, .int .i64 p, .int .i64 b, .int .i64 q] 65)).alloc (.cells #[.int .i64 0, .int .i64 0] 32)).alloc (.cells #[.int .i64 b, .int .i64 q] 30)).alloc (.cells #[.int .i64 a, .int .i64 p] 30)) (.int .i64 b) (.int .i64 q)) := by
      have := (Two.new ((w.alloc (.cells #[.int .i64 a, .int .i64 p, .int .i64 b, .int .i64 q] 65)).alloc (.cells #[.int .i64 0, .int .i64 0] 32)) (.int .i64 b) (.int .i64 q) 30).alloc (.cells #[.int .i64 a, .int .i64 p] 30)
      rwa [World.size_alloc, World.size_alloc] at this
    have T2 : Hid (Two (w.heap.size + 1 + 1 + 1) ((((w.alloc (.cells #[.int .i64 a, .int .i64 p, .int .i64 b, .int .i64 q] 65)).alloc (.cells #[.int .i64 0, .int .i64 0] 32)).alloc (.cells #[.int .i64 b, .int .i64 q] 30)).alloc (.cells #[.int .i64 a, .int .i64 p] 30)) (.int .i64 a) (.int .i64 p)) := by
      have := Two.new (((w.alloc (.cells #[.int .i64 a, .int .i64 p, .int .i64 b, .int .i64 q] 65)).alloc (.cells #[.int .i64 0, .int .i64 0] 32)).alloc (.cells #[.int .i64 b, .int .i64 q] 30)) (.int .i64 a) (.int .i64 p) 30
      rwa [World.size_alloc, World.size_alloc, World.size_alloc] at this
    have HB : Hid (Below w.heap.size w ((((w.alloc (.cells #[.int .i64 a, .int .i64 p, .int .i64 b, .int .i64 q] 65)).alloc (.cells #[.int .i64 0, .int .i64 0] 32)).alloc (.cells #[.int .i64 b, .int .i64 q] 30)).alloc (.cells #[.int .i64 a, .int .i64 p] 30))) := bel_alloc (bel_alloc (bel_alloc (bel_alloc (Below.refl _ _))))
    replace TR := Lib.hid (TR.out.below (bel_drew _))
    replace T1 := Lib.hid (T1.out.below (bel_drew _))
    replace T2 := Lib.hid (T2.out.below (bel_drew _))
    replace HB := Lib.hid (bel_trans HB.out (bel_drew _))
    generalize ((((w.alloc (.cells #[.int .i64 a, .int .i64 p, .int .i64 b, .int .i64 q] 65)).alloc (.cells #[.int .i64 0, .int .i64 0] 32)).alloc (.cells #[.int .i64 b, .int .i64 q] 30)).alloc (.cells #[.int .i64 a, .int .i64 p] 30)).drew = wa at *
    obtain ⟨t0, t1, t2, t3, t4⟩ := T1.out
    obtain ⟨s0, s1, s2, s3, s4⟩ := T2.out
    go_wp2_with fail
    replace TR := Lib.hid ((((TR.out.apart (w.heap.size + 1 + 1 + 1) 0 (.int .i64 b) (by omega)).apart (w.heap.size + 1 + 1 + 1) 1 (.int .i64 q) (by omega)).apart (w.heap.size + 1 + 1) 0 (.int .i64 a) (by omega)).apart (w.heap.size + 1 + 1) 1 (.int .i64 p) (by omega))
    replace T2 := Lib.hid ((T2.out.both (.int .i64 b) (.int .i64 q)).apart (w.heap.size + 1 + 1) 0 (.int .i64 a) (by omega) |>.apart (w.heap.size + 1 + 1) 1 (.int .i64 p) (by omega))
    replace T1 := Lib.hid (((T1.out.apart (w.heap.size + 1 + 1 + 1) 0 (.int .i64 b) (by omega)).apart (w.heap.size + 1 + 1 + 1) 1 (.int .i64 q) (by omega)).both (.int .i64 a) (.int .i64 p))
    replace HB := Lib.hid ((((HB.out.setCell (p := ⟨w.heap.size + 1 + 1 + 1, 0, none⟩) (by show w.heap.size ≤ w.heap.size + 1 + 1 + 1; omega) (.int .i64 b)).setCell (p := ⟨w.heap.size + 1 + 1 + 1, 1, none⟩) (by show w.heap.size ≤ w.heap.size + 1 + 1 + 1; omega) (.int .i64 q)).setCell (p := ⟨w.heap.size + 1 + 1, 0, none⟩) (by show w.heap.size ≤ w.heap.size + 1 + 1; omega) (.int .i64 a)).setCell (p := ⟨w.heap.size + 1 + 1, 1, none⟩) (by show w.heap.size ≤ w.heap.size + 1 + 1; omega) (.int .i64 p))
    clear t0 t1 t2 t3 t4 s0 s1 s2 s3 s4
    generalize ((((wa.setCell ⟨w.heap.size + 1 + 1 + 1, 0, none⟩ (.int .i64 b)).setCell ⟨w.heap.size + 1 + 1 + 1, 1, none⟩ (.int .i64 q)).setCell ⟨w.heap.size + 1 + 1, 0, none⟩ (.int .i64 a)).setCell ⟨w.heap.size + 1 + 1, 1, none⟩ (.int .i64 p)) = wc at *
    obtain ⟨t0, t1, t2, t3, t4⟩ := T1.out
    obtain ⟨s0, s1, s2, s3, s4⟩ := T2.out
    go_quiet ((go_at_call 65; refine Calls.quiet_of_same (HD.out _ _ _ ⟨by omega, by omega, by omega, by omega⟩)))
    replace TR := Lib.hid (TR.out.below (bel_drewN _ nq))
    replace T2 := Lib.hid (T2.out.below (bel_drewN _ nq))
    replace HB := Lib.hid (bel_trans HB.out (bel_drewN _ nq))
    generalize wc.drewN nq = wb at *
    clear t0 t1 t2 t3 t4 s0 s1 s2 s3 s4
    go_wp2_with fail
    refine (H3.out _).mono ?_
    rintro e w4 ⟨R, rfl, h1⟩
    replace TR := Lib.hid (TR.out.below h1)
    replace T2 := Lib.hid (T2.out.below h1)
    replace HB := Lib.hid (bel_trans HB.out h1); clear h1
    go_wp2_with fail
    refine (H4.out _).mono ?_
    rintro e w5 ⟨rfl, h1⟩
    replace TR := Lib.hid (TR.out.below h1)
    replace T2 := Lib.hid (T2.out.below h1)
    replace HB := Lib.hid (bel_trans HB.out h1); clear h1
    obtain ⟨t0, t1, _, _, _⟩ := T2.out
    obtain ⟨r0, r1, r2, r3, _⟩ := TR.out
    go_wp2
    obtain ⟨z0, z1⟩ := two_read w5 (w.heap.size + 1) (.int .i64 (q + Q)) (.int .i64 (q + V)) r0 r1
    refine bodyPost_ret (v := .agg #[.int .i64 (q + Q), .int .i64 (q + V)]) (by simp [results, Try.results49, go_sem, z0, z1]) rfl ?_
    exact ⟨rfl, (HB.out.setCell (p := ⟨w.heap.size + 1, 0, none⟩) (Nat.le_succ _) _).setCell (p := ⟨w.heap.size + 1, 1, none⟩) (Nat.le_succ _) _⟩
theorem at_any (a p b q x : Int) (w : World) (a0 : 0 ≤ a) (ab : a < b) (b1 : b ≤ 100000) (p0 : 0 ≤ p) (p1 : p ≤ 100000) (q0 : 0 ≤ q) (q1 : q ≤ 100000) (x0 : a ≤ x) (x1 : x ≤ b) :
    Calls Try.prog 49 #[.agg #[.int .i64 a, .int .i64 p, .int .i64 b, .int .i64 q], .int .i64 x] w fun e w' => e = .returned (.agg #[.int .i64 (lnL a p b q x), .int .i64 (lnH a p b q x)]) ∧ Below w.heap.size w w' := by
  have hd : 1 ≤ b - a ∧ b - a ≤ 100000 := by omega
  by_cases h : p ≤ q
  · obtain ⟨f1, f2, f3, f4⟩ := prop_facts (a := q - p) (b := x - a) (c := b - a) (by omega) (by omega) hd
    have bt := ln_between (p := p) (q := q) ab x0 x1
    have e := ln_up (p := p) (q := q) (x := x) ab
    have e1 : lnL a p b q x = lnN a p b q x / (b - a) := rfl
    have e2 : lnH a p b q x = cdv (lnN a p b q x) (b - a) := rfl
    have fc := fl_cl (lnN a p b q x) (b - a) (by omega)
    rw [e.1, e.2]
    refine at_up a p b q x _ _ w a0 ab b1 p0 p1 q0 h q1 (by omega) (by omega) (by omega) (by omega) x0 x1 (by omega) (by omega) (Lib.hid fun u v W h => dist_any u v W h.1 h.2.1 h.2.2.1 h.2.2.2) (fun W => ?_) (fun W => ?_)
    · have := of_any (q - p) (x - a) (b - a) W
      rw [f1, f2] at this
      exact this.mono fun _ _ g => ⟨_, g.1, g.2⟩
    · have := up_any (q - p) (x - a) (b - a) W
      rw [f3, f4] at this
      exact this
  · obtain ⟨f1, f2, f3, f4⟩ := prop_facts (a := p - q) (b := b - x) (c := b - a) (by omega) (by omega) hd
    have bt := ln_between (p := p) (q := q) ab x0 x1
    have e := ln_dn (p := p) (q := q) (x := x) ab
    have e1 : lnL a p b q x = lnN a p b q x / (b - a) := rfl
    have e2 : lnH a p b q x = cdv (lnN a p b q x) (b - a) := rfl
    have fc := fl_cl (lnN a p b q x) (b - a) (by omega)
    rw [e.1, e.2]
    refine at_dn a p b q x _ _ w a0 ab b1 p0 p1 q0 (by omega) q1 (by omega) (by omega) (by omega) (by omega) x0 x1 (by omega) (by omega) (Lib.hid fun u v W h => dist_any u v W h.1 h.2.1 h.2.2.1 h.2.2.2) (fun W => ?_) (fun W => ?_)
    · have := of_any (p - q) (b - x) (b - a) W
      rw [f1, f2] at this
      exact this.mono fun _ _ g => ⟨_, g.1, g.2⟩
    · have := up_any (p - q) (b - x) (b - a) W
      rw [f3, f4] at this
      exact this
end Go.Proofs.Ytpnlfeljmpfeoab

/- Package profile: a place on its piece. -/
namespace Go.Proofs.Ytpnlfeljmpfeoab
open Go.RowKit

/-- a piece of a right profile, at a place of it -/
theorem pc_bd {l : List (Int × Int)} {x : Int} {i : Nat} (h : RP l) (x0 : 0 ≤ x) (hi : IsPc l x i) :
    1 ≤ i ∧ i < l.length ∧ (0 ≤ gX l (i - 1) ∧ gX l (i - 1) < gX l i ∧ gX l i ≤ 100000) ∧ (1 ≤ gR l (i - 1) ∧ gR l (i - 1) ≤ 100000) ∧ (1 ≤ gR l i ∧ gR l i ≤ 100000) ∧ gX l (i - 1) ≤ x ∧ x ≤ gX l i := by
  have h1 := hi.h1
  have h2 := hi.h2
  have b0 := h.bx (i - 1) (by omega)
  have b1 := h.bx i h2
  have a := h.asc (i - 1) (by omega)
  rw [show i - 1 + 1 = i by omega] at a
  refine ⟨h1, h2, ⟨b0.1, a, b1.2⟩, h.br _ (by omega), h.br _ h2, ?_, hi.h3⟩
  by_cases e : i = 1
  · subst e; have := h.x0; show gX l 0 ≤ x; omega
  · have := hi.h4 (i - 1) (by omega) (by omega)
    omega
theorem find_of {v : Value} {l : List (Int × Int)} {w : World} (hv : Pts w v l) (h : RP l) (x : Int) (i : Nat) (hi : IsPc l x i) :
    Calls Try.prog 48 #[v, .int .i64 x] w fun e w' => e = .returned (.tuple #[.agg #[.int .i64 (gX l (i - 1)), .int .i64 (gR l (i - 1)), .int .i64 (gX l i), .int .i64 (gR l i)], .int .i64 i]) ∧ Below w.heap.size w w' := by
  have n0 := h.n0
  have n1 := h.n1
  obtain ⟨a, cap, rfl, hl, hh⟩ := hv
  rcases hh with hh | ⟨b, off, rfl, hb, hc⟩
  · omega
  · exact find_some b off l.length cap l x i w n0 (by omega) rfl hb (Lib.hid hc) (Lib.hid hi)
/-- the radius on the piece -/
theorem at_of {l : List (Int × Int)} {x : Int} {i : Nat} (h : RP l) (x0 : 0 ≤ x) (hi : IsPc l x i) (w : World) :
    Calls Try.prog 49 #[.agg #[.int .i64 (gX l (i - 1)), .int .i64 (gR l (i - 1)), .int .i64 (gX l i), .int .i64 (gR l i)], .int .i64 x] w fun e w' => e = .returned (.agg #[.int .i64 (rdL l x), .int .i64 (rdH l x)]) ∧ Below w.heap.size w w' := by
  obtain ⟨h1, h2, ⟨b0, b1, b2⟩, ⟨c0, c1⟩, ⟨d0, d1⟩, g0, g1⟩ := pc_bd h x0 hi
  have e := pc_of hi
  unfold rdL rdH
  rw [e]
  exact at_any _ _ _ _ x w b0 b1 b2 (by omega) c1 (by omega) d1 g0 g1

theorem plE_zero {l : List (Int × Int)} {x : Int} : plE l x = 0 ↔ RP l ∧ 0 ≤ x ∧ x ≤ gX l (l.length - 1) := by
  unfold plE
  by_cases h : ckE l = 0
  · rw [if_pos h]
    have := (ckE_iff l).1 h
    by_cases g : x < 0 ∨ gX l (l.length - 1) < x
    · rw [if_pos g]; exact ⟨fun e => by omega, fun e => by omega⟩
    · rw [if_neg g]; exact ⟨fun _ => ⟨this, by omega, by omega⟩, fun _ => rfl⟩
  · rw [if_neg h]
    exact ⟨fun e => by omega, fun e => absurd ((ckE_iff l).2 e.1) h⟩
end Go.Proofs.Ytpnlfeljmpfeoab

/- Package profile: Insert. -/
namespace Go.Proofs.Ytpnlfeljmpfeoab
open Go.RowKit

/-- what Insert returns -/
noncomputable def ixE (l : List (Int × Int)) (x : Int) : Int :=
  if plE l x = 0 then (if gX l (pc l x - 1) = x ∨ gX l (pc l x) = x then 6 else if rdL l x ≠ rdH l x then 10 else if l.length = 32 then 12 else 0) else plE l x
noncomputable def ixL (l : List (Int × Int)) (x : Int) : List (Int × Int) := if ixE l x = 0 then l.take (pc l x) ++ [(x, rdL l x)] ++ l.drop (pc l x) else []

theorem flat_take (l : List (Int × Int)) (i : Nat) : flat (l.take i) = (flat l).take (i * 2) := by
  induction l generalizing i with
  | nil => simp [flat]
  | cons q l ih =>
    cases i with
    | zero => simp [flat]
    | succ i =>
      rw [show (i + 1) * 2 = i * 2 + 1 + 1 by omega]
      simp only [List.take_succ_cons, flat, ih]
theorem flat_drop (l : List (Int × Int)) (i : Nat) : flat (l.drop i) = (flat l).drop (i * 2) := by
  induction l generalizing i with
  | nil => simp [flat]
  | cons q l ih =>
    cases i with
    | zero => simp [flat]
    | succ i =>
      rw [show (i + 1) * 2 = i * 2 + 1 + 1 by omega]
      simp only [List.drop_succ_cons, flat, ih]
/-- the cells of a list that lies in memory -/
theorem flat_cells {W : World} {b off n : Nat} {l : List (Int × Int)} (hn : n = l.length) (hc : ∀ j, j < n → W.cell? ⟨b, off + j * 2, none⟩ = some (.int .i64 (gX l j)) ∧ W.cell? ⟨b, off + j * 2 + 1, none⟩ = some (.int .i64 (gR l j))) :
    ∀ j u, (flat l)[j]? = some u → W.cell? ⟨b, off + j, none⟩ = some u := by
  intro j u hj
  obtain ⟨i, hi, ⟨rfl, rfl⟩ | ⟨rfl, rfl⟩⟩ := flat_inv l j u hj
  · exact (hc i (by omega)).1
  · rw [← Nat.add_assoc]; exact (hc i (by omega)).2
theorem take_cells {W : World} {b off n : Nat} {l : List (Int × Int)} (i : Nat) (h : ∀ j u, (flat l)[j]? = some u → W.cell? ⟨b, off + j, none⟩ = some u) :
    ∀ j u, (flat (l.take i))[j]? = some u → W.cell? ((⟨b, off, none⟩ : Addr).add j) = some u := by
  intro j u hj
  rw [flat_take, List.getElem?_take] at hj
  split at hj
  · rw [Go.WideShapes.add_plain]; exact h j u hj
  · cases hj
theorem drop_cells {W : World} {b off : Nat} {l : List (Int × Int)} (i : Nat) (h : ∀ j u, (flat l)[j]? = some u → W.cell? ⟨b, off + j, none⟩ = some u) :
    ∀ j u, (flat (l.drop i))[j]? = some u → W.cell? ((⟨b, off + i * 2, none⟩ : Addr).add j) = some u := by
  intro j u hj
  rw [flat_drop, List.getElem?_drop] at hj
  rw [Go.WideShapes.add_plain, Nat.add_assoc]
  exact h _ u hj
theorem new_pt (W : World) (x y : Value) (t : TypeId) : ∀ j u, [x, y][j]? = some u → (W.alloc (.cells #[x, y] t)).cell? ((⟨W.heap.size, 0, none⟩ : Addr).add j) = some u := by
  intro j u hj
  match j, hj with
  | 0, hj => simp at hj; subst hj; simp [Addr.add, go_sem]
  | 1, hj => simp at hj; subst hj; simp [Addr.add, go_sem]
  | j + 2, hj => simp at hj

theorem Ins_bad (v : Value) (x E : Int) (w : World) (e1 : (E == 0) = false) (e2 : (E != 0) = true)
    (H1 : Hid (Calls Try.prog 47 #[v, .int .i64 x] w fun e w' => e = .returned (.int .i64 E) ∧ Below w.heap.size w w')) :
    Calls Try.prog 29 #[v, .int .i64 x] w fun e w' => e = .returned (.tuple #[.slice none 0 0, .int .i64 E]) ∧ Below w.heap.size w w' := by
  go_enter Try.func29, Try.ntmps29
  go_wp2_with fail
  refine H1.out.mono ?_
  rintro e w1 ⟨rfl, gg⟩
  have X1 := Lib.hid gg; clear gg
  go_wp2
  go_returns
  exact ⟨rfl, X1.out⟩
set_option maxHeartbeats 4000000 in
theorem Ins_twice (v : Value) (x a p b q i : Int) (w : World) (h : (a == x) = true ∧ (x == a) = true ∨ (a == x) = false ∧ (x == a) = false ∧ (b == x) = true ∧ (x == b) = true)
    (H1 : Hid (Calls Try.prog 47 #[v, .int .i64 x] w fun e w' => e = .returned (.int .i64 0) ∧ Below w.heap.size w w'))
    (H2 : Hid (∀ W, Below w.heap.size w W → Calls Try.prog 48 #[v, .int .i64 x] W fun e w' => e = .returned (.tuple #[.agg #[.int .i64 a, .int .i64 p, .int .i64 b, .int .i64 q], .int .i64 i]) ∧ Below W.heap.size W w')) :
    Calls Try.prog 29 #[v, .int .i64 x] w fun e w' => e = .returned (.tuple #[.slice none 0 0, .int .i64 6]) ∧ Below w.heap.size w w' := by
  go_enter Try.func29, Try.ntmps29
  go_wp2_with fail
  refine H1.out.mono ?_
  rintro e w1 ⟨rfl, gg⟩
  have X1 := Lib.hid gg; clear gg
  go_wp2_with fail
  refine (H2.out _ X1.out).mono ?_
  rintro e w2 ⟨rfl, gg⟩
  replace X1 := Lib.hid (bel_trans X1.out gg); clear gg
  rcases h with ⟨h1, h2⟩ | ⟨h1, h2, h3, h4⟩
  · go_wp2
    go_returns
    exact ⟨rfl, bA X1.out _⟩
  · go_wp2
    go_returns
    exact ⟨rfl, bA X1.out _⟩
set_option maxHeartbeats 4000000 in
theorem Ins_none (ad : Option Addr) (n cap : Nat) (x a p b q i L H E : Int) (w : World) (h1 : (a == x) = false) (h2 : (x == a) = false) (h3 : (b == x) = false) (h4 : (x == b) = false)
    (h : ((L != H) = true ∧ E = 10) ∨ ((L != H) = false ∧ n = 32 ∧ E = 12))
    (H1 : Hid (Calls Try.prog 47 #[.slice ad n cap, .int .i64 x] w fun e w' => e = .returned (.int .i64 0) ∧ Below w.heap.size w w'))
    (H2 : Hid (∀ W, Below w.heap.size w W → Calls Try.prog 48 #[.slice ad n cap, .int .i64 x] W fun e w' => e = .returned (.tuple #[.agg #[.int .i64 a, .int .i64 p, .int .i64 b, .int .i64 q], .int .i64 i]) ∧ Below W.heap.size W w'))
    (H3 : Hid (∀ W, Calls Try.prog 49 #[.agg #[.int .i64 a, .int .i64 p, .int .i64 b, .int .i64 q], .int .i64 x] W fun e w' => e = .returned (.agg #[.int .i64 L, .int .i64 H]) ∧ Below W.heap.size W w')) :
    Calls Try.prog 29 #[.slice ad n cap, .int .i64 x] w fun e w' => e = .returned (.tuple #[.slice none 0 0, .int .i64 E]) ∧ Below w.heap.size w w' := by
  go_enter Try.func29, Try.ntmps29
  go_wp2_with fail
  refine H1.out.mono ?_
  rintro e w1 ⟨rfl, gg⟩
  have X1 := Lib.hid gg; clear gg
  go_wp2_with fail
  refine (H2.out _ X1.out).mono ?_
  rintro e w2 ⟨rfl, gg⟩
  replace X1 := Lib.hid (bel_trans X1.out gg); clear gg
  go_wp2_with fail
  refine (H3.out _).mono ?_
  rintro e w3 ⟨rfl, gg⟩
  replace X1 := Lib.hid (bA (bel_trans X1.out (bel_alloc gg)) (.cells #[.int .i64 L, .int .i64 H] 32)); clear gg
  rcases h with ⟨g1, rfl⟩ | ⟨g1, rfl, rfl⟩
  · go_wp2
    go_returns
    exact ⟨rfl, X1.out⟩
  · go_wp2
    go_returns
    exact ⟨rfl, X1.out⟩
set_option maxHeartbeats 16000000 in
set_option maxRecDepth 1000000 in
theorem Ins_ok (b off n cap i : Nat) (l : List (Int × Int)) (x a p c q L : Int) (w : World) (h1 : (a == x) = false) (h2 : (x == a) = false) (h3 : (c == x) = false) (h4 : (x == c) = false) (n1 : n < 32) (i0 : 1 ≤ i) (i1 : i < n) (hcap : n ≤ cap) (hcap2 : cap ≤ 9223372036854775807) (hn : Hid (n = l.length)) (hb : b < w.heap.size)
    (hc : Hid (∀ j u, (flat l)[j]? = some u → w.cell? ⟨b, off + j, none⟩ = some u))
    (H1 : Hid (Calls Try.prog 47 #[.slice (some ⟨b, off, none⟩) n cap, .int .i64 x] w fun e w' => e = .returned (.int .i64 0) ∧ Below w.heap.size w w'))
    (H2 : Hid (∀ W, Below w.heap.size w W → Calls Try.prog 48 #[.slice (some ⟨b, off, none⟩) n cap, .int .i64 x] W fun e w' => e = .returned (.tuple #[.agg #[.int .i64 a, .int .i64 p, .int .i64 c, .int .i64 q], .int .i64 i]) ∧ Below W.heap.size W w'))
    (H3 : Hid (∀ W, Calls Try.prog 49 #[.agg #[.int .i64 a, .int .i64 p, .int .i64 c, .int .i64 q], .int .i64 x] W fun e w' => e = .returned (.agg #[.int .i64 L, .int .i64 L]) ∧ Below W.heap.size W w')) :
    Calls Try.prog 29 #[.slice (some ⟨b, off, none⟩) n cap, .int .i64 x] w fun e w' => ∃ v, e = .returned (.tuple #[v, .int .i64 0]) ∧ Pts w' v (l.take i ++ [(x, L)] ++ l.drop i) ∧ Below w.heap.size w w' := by
  obtain ⟨ti, hi, hz0, hz1, hz2⟩ := info_parts pt_info
  have lt : Hid ((flat (l.take i)).length = i * 2) := by show _ = _; rw [flat_len, List.length_take]; have := hn.out; omega
  have ld : Hid ((flat (l.drop i)).length = (n - i) * 2) := by show _ = _; rw [flat_len, List.length_drop]; have := hn.out; omega
  have HC : Hid (∀ W, Below w.heap.size w W → ∀ j u, (flat l)[j]? = some u → W.cell? ⟨b, off + j, none⟩ = some u) := fun W hW j u hj => ((bcell hW).1 _ _ hb).trans (hc.out j u hj)
  clear hc
  go_enter Try.func29, Try.ntmps29
  go_wp2_with fail
  refine H1.out.mono ?_
  rintro e w1 ⟨rfl, gg⟩
  have X1 := Lib.hid gg; clear gg
  go_wp2_with fail
  refine (H2.out _ X1.out).mono ?_
  rintro e w2 ⟨rfl, gg⟩
  replace X1 := Lib.hid (bel_trans X1.out gg); clear gg
  go_wp2_with fail
  refine (H3.out _).mono ?_
  rintro e w3 ⟨rfl, gg⟩
  replace X1 := Lib.hid (bel_trans X1.out (bel_alloc gg)); clear gg
  have l1 : (i : Int) ≤ (cap : Int) := by omega
  have l2 : i ≤ cap := by omega
  have l3 : (i : Int) ≤ (n : Int) := by omega
  have l4 : i ≤ n := by omega
  have l5 : ¬ (n : Int) = 32 := by omega
  have l6 : ((n : Int) == 32) = false := by rw [beq_eq_false_iff_ne]; exact l5
  have l7 : i ≠ cap := by omega
  have l8 : cap ≠ i := by omega
  have l9 : (L != L) = false := by simp
  have TB := Lib.hid (Two.new w3 (.int .i64 L) (.int .i64 L) 32)
  have XA : Hid (Below w.heap.size w (((w3.alloc (.cells #[.int .i64 L, .int .i64 L] 32)).alloc (.cells #[.int .i64 x, .int .i64 L] 30)).drew)) := bel_trans (bA (bA X1.out _) _) (bel_drew _)
  have NP : Hid (∀ j u, [(.int .i64 x : Value), .int .i64 L][j]? = some u → (((w3.alloc (.cells #[.int .i64 L, .int .i64 L] 32)).alloc (.cells #[.int .i64 x, .int .i64 L] 30)).drew).cell? ((⟨w3.heap.size + 1, 0, none⟩ : Addr).add j) = some u) := by
    have := new_pt (w3.alloc (.cells #[.int .i64 L, .int .i64 L] 32)) (.int .i64 x) (.int .i64 L) 30
    rw [World.size_alloc] at this
    exact this
  have NT : Hid (∀ b', some (⟨b, off, none⟩ : Addr) = some b' → ∀ j u, (flat (l.take i))[j]? = some u → (((w3.alloc (.cells #[.int .i64 L, .int .i64 L] 32)).alloc (.cells #[.int .i64 x, .int .i64 L] 30)).drew).cell? (b'.add j) = some u) := by
    intro b' hb'
    obtain rfl := Option.some.inj hb'
    exact take_cells (n := n) i (HC.out _ XA.out)
  have hn3 : w.heap.size ≤ w3.heap.size := X1.out.size
  go_wp2_with fail
  go_region_law (refine step_append_grows rfl (.tmp 49) (.tmp 54) 22 rfl 30 ti (.agg #[.int .i64 0, .int .i64 0]) 2 16 Try.underlying22 hi hz0 hz1 hz2 rfl (by decide) (some ⟨b, off, none⟩) i i (flat (l.take i)) (by simp [Act.eval, Act.put]) (fun h => by cases h) lt.out NT.out ⟨w3.heap.size + 1, 0, none⟩ 1 1 [.int .i64 x, .int .i64 L] (by simp [Act.eval, Act.put]) rfl NP.out (by intro u hu; simp at hu; rcases hu with rfl | rfl <;> rfl) (by omega) (by unfold maxLen; omega) (by omega) ?_; intro v1 w5 hown1 hgrow1)
  all_goals
    have XB : Hid (Below w.heap.size w w5) := XA.out.grown hgrow1 (by have := XA.out.size; exact this) (fun k e => by cases e)
    have hsz := hgrow1.size
    clear NT NP TB
    go_wp2_with (at_builtin; refine wpList_append_own _ rfl _ _ 22 rfl _ 30 ti (.agg #[.int .i64 0, .int .i64 0]) 2 16 Try.underlying22 hi hz0 hz1 hz2 rfl (by omega) _ _ _ rfl hown1 ⟨b, off + i * 2, none⟩ (n - i) (cap - i) (flat (l.drop i)) ?r0 ?r1 ?r2 ?r3 ?r4 ?r5 ?r6 ?_)
    case r0 => first | rfl | simp [Act.eval, Act.put]
    case r1 => exact ld.out
    case r2 => exact drop_cells i (HC.out _ XB.out)
    case r3 => exact flat_one _
    case r4 => unfold maxLen; omega
    case r5 => omega
    case r6 => exact hsz
    intro v2 w6 hown2 hgrow2 _
    have R : ∃ B, OwnP w6 B v2 (l.take i ++ [(x, L)] ++ l.drop i) := by
      unfold OwnP
      refine ⟨w3.heap.size + 1 + 1, ?_⟩
      rw [flat_app, flat_app, List.length_append, List.length_append, List.length_take, List.length_drop, show min i l.length + [(x, L)].length + (l.length - i) = i + 1 + (n - i) by have := hn.out; simp; omega, List.append_assoc]
      exact hown2
    have P := Lib.hid (R.choose_spec.pts)
    have XC := Lib.hid (XB.out.grown hgrow2 XB.out.size (fun j hj => Nat.le_trans XA.out.size ((hown1.lt j hj).1)))
    clear hown1 hown2 hgrow1 hgrow2 R XB XA
    go_wp2
    go_returns
    exact ⟨_, rfl, P.out, XC.out⟩
theorem ins_any (v : Value) (l : List (Int × Int)) (x : Int) (w : World) (hv : Pts w v l) :
    Calls Try.prog 29 #[v, .int .i64 x] w fun e w' => ∃ u, e = .returned (.tuple #[u, .int .i64 (ixE l x)]) ∧ Pts w' u (ixL l x) ∧ Below w.heap.size w w' := by
  have HC := Lib.hid (place_any v l x w hv)
  unfold ixL
  by_cases h : plE l x = 0
  · obtain ⟨hR, x0, x1⟩ := plE_zero.1 h
    have hi := pc_is hR.n0 x1
    have e : ixE l x = (if gX l (pc l x - 1) = x ∨ gX l (pc l x) = x then 6 else if rdL l x ≠ rdH l x then 10 else if l.length = 32 then 12 else 0) := by unfold ixE; rw [if_pos h]
    rw [h] at HC
    have H2 : Hid (∀ W, Below w.heap.size w W → _) := fun W hW => find_of (hv.below hW) hR x _ hi
    have H3 : Hid (∀ W, _) := fun W => at_of hR x0 hi W
    by_cases g1 : gX l (pc l x - 1) = x ∨ gX l (pc l x) = x
    · have e1 : ixE l x = 6 := by rw [e, if_pos g1]
      rw [e1, if_neg (by omega)]
      refine (Ins_twice v x _ _ _ _ _ w ?_ HC H2).mono fun _ w' g => ⟨_, g.1, pts_nil w', g.2⟩
      by_cases g2 : gX l (pc l x - 1) = x
      · left; rw [g2]; simp
      · right
        have g3 : gX l (pc l x) = x := by rcases g1 with g | g; exact absurd g g2; exact g
        exact ⟨by simpa using g2, by simpa using fun e => g2 e.symm, by simpa using g3, by simpa using g3.symm⟩
    · have k1 : ¬ gX l (pc l x - 1) = x := fun h => g1 (.inl h)
      have k2 : ¬ gX l (pc l x) = x := fun h => g1 (.inr h)
      have a1 : (gX l (pc l x - 1) == x) = false := by simpa using k1
      have a2 : (x == gX l (pc l x - 1)) = false := by simpa using fun e => k1 e.symm
      have a3 : (gX l (pc l x) == x) = false := by simpa using k2
      have a4 : (x == gX l (pc l x)) = false := by simpa using fun e => k2 e.symm
      have hvs := hv
      obtain ⟨ad, cap, rfl, hl, hh⟩ := hvs
      by_cases g2 : rdL l x = rdH l x
      · by_cases g3 : l.length = 32
        · have e1 : ixE l x = 12 := by rw [e, if_neg g1, if_neg (by simpa using g2), if_pos g3]
          rw [e1, if_neg (by omega)]
          exact (Ins_none ad l.length cap x _ _ _ _ _ _ _ 12 w a1 a2 a3 a4 (.inr ⟨by simpa using g2, g3, rfl⟩) HC H2 H3).mono fun _ w' g => ⟨_, g.1, pts_nil w', g.2⟩
        · have e1 : ixE l x = 0 := by rw [e, if_neg g1, if_neg (by simpa using g2), if_neg g3]
          rw [e1, if_pos rfl]
          have n0 := hR.n0
          have n1 := hR.n1
          rcases hh with hh | ⟨b, off, rfl, hb, hc⟩
          · omega
          · rw [← g2] at H3
            exact Ins_ok b off l.length cap (pc l x) l x _ _ _ _ _ w a1 a2 a3 a4 (by omega) hi.h1 hi.h2 hl.1 hl.2 (Lib.hid rfl) hb (Lib.hid (flat_cells rfl hc)) HC H2 H3
      · have e1 : ixE l x = 10 := by rw [e, if_neg g1, if_pos g2]
        rw [e1, if_neg (by omega)]
        exact (Ins_none ad l.length cap x _ _ _ _ _ _ _ 10 w a1 a2 a3 a4 (.inl ⟨by simpa using g2, rfl⟩) HC H2 H3).mono fun _ w' g => ⟨_, g.1, pts_nil w', g.2⟩
  · have e : ixE l x = plE l x := by unfold ixE; rw [if_neg h]
    rw [e, if_neg h]
    exact (Ins_bad v x _ w (by simpa using h) (by simpa using h) HC).mono fun _ w' g => ⟨_, g.1, pts_nil w', g.2⟩
end Go.Proofs.Ytpnlfeljmpfeoab

/- Package profile: Turn. -/
namespace Go.Proofs.Ytpnlfeljmpfeoab
open Go.RowKit Go.Sort

/-- a slice of the call's own that reads as a list of points, and can be written -/
def WPts (w : World) (B : Nat) (v : Value) (l : List (Int × Int)) : Prop :=
  ∃ g cap, v = .slice (some ⟨g, 0, none⟩) l.length cap ∧ (l.length ≤ cap ∧ cap ≤ 9223372036854775807) ∧ B ≤ g ∧ g < w.heap.size ∧
    ∀ j, j < l.length → (w.cell? ⟨g, j * 2, none⟩ = some (.int .i64 (gX l j)) ∧ w.cell? ⟨g, j * 2 + 1, none⟩ = some (.int .i64 (gR l j))) ∧ w.frozen? ⟨g, j * 2, none⟩ = false ∧ w.frozen? ⟨g, j * 2 + 1, none⟩ = false
theorem WPts.pts {w : World} {B : Nat} {v : Value} {l : List (Int × Int)} (h : WPts w B v l) : Pts w v l := by
  obtain ⟨g, cap, rfl, h1, h2, h3, h4⟩ := h
  exact ⟨_, cap, rfl, h1, .inr ⟨g, 0, rfl, h3, fun j hj => by rw [Nat.zero_add]; exact (h4 j hj).1⟩⟩
def encQ (q : Int × Int) : List Value := [.int .i64 q.1, .int .i64 q.2]
theorem reverse_p (u : Value) (l : List (Int × Int)) (B : Nat) (w0 w : World) (h : OwnP w B u l) (h0 : l.length ≠ 0) (hb : Below B w0 w) (hn : l.length ≤ 1000) :
    Calls Try.prog 45 #[u] w fun e w' => e = .returned (.tuple #[]) ∧ WPts w' B u l.reverse ∧ Below B w0 w' := by
  have h' := h
  obtain ⟨_, h2⟩ := h
  rcases h2 with ⟨rfl, hn0⟩ | ⟨g, cap, cur, rfl, hg, hh, hc, hm, hs, ht⟩
  · exact absurd hn0 h0
  · have hlt : g < w.heap.size := by
      rcases Nat.lt_or_ge g w.heap.size with h | h
      · exact h
      · rw [Array.getElem?_eq_none h] at hh; cases hh
    have hcell := World.ownsRow.cells h' (g := g) rfl
    have hH : HoldsK encQ 2 w g 0 l.toArray := by
      intro j hj
      rw [size_flatK] at hj
      have hj' : j < l.length * 2 := by simpa using hj
      refine ⟨?_, by simp [World.frozen?, hh]⟩
      rw [get_flatK _ _ _ _ hj, ← Go.WideShapes.add_plain]
      refine hcell j _ ?_
      have hf := flat_at l (j / 2) (by omega)
      have hgd : l.toArray[j / 2]! = l.getD (j / 2) (0, 0) := by
        rw [getElem!_pos l.toArray (j / 2) (by simp; omega), List.getD_eq_getElem?_getD, List.getElem?_eq_getElem (by omega)]; simp
      rw [hgd]
      rcases Nat.mod_two_eq_zero_or_one j with e | e
      · rw [e]
        have hj2 : j = j / 2 * 2 := by omega
        have := hf.1
        rw [← hj2] at this
        rw [this]; rfl
      · rw [e]
        have hj2 : j = j / 2 * 2 + 1 := by omega
        have := hf.2
        rw [← hj2] at this
        rw [this]; rfl
    have hr := AnyQ.slices_Reverse Try.reverseQ 2 Try.isAgg30 Try.sizeOf30 encQ (fun _ => rfl) (fun x v hv => by simp [encQ] at hv; rcases hv with rfl | rfl <;> rfl) g 0 cap l.toArray w hH (by simp; omega)
    rw [show l.toArray.size = l.length by simp] at hr
    refine hr.mono ?_
    rintro e w' ⟨rfl, n, rfl⟩
    refine ⟨rfl, ⟨g, cap, by rw [List.length_reverse], ?_, hg, ?_, fun j hj => ?_⟩, Lib.below_putRow hb hg⟩
    · rw [List.length_reverse]; unfold maxLen at hm; omega
    · show g < (putRow id (Sort.ahead w n) g 0 _).heap.size
      rw [size_putRow]; exact hlt
    · rw [List.length_reverse] at hj
      have hP := holdsK_putRowK encQ 2 (Sort.ahead w n) g 0 l.toArray l.toArray.reverse (holdsK_ahead encQ 2 w n g 0 _ hH) (by simp)
      have hgd : l.toArray.reverse[j]! = l.reverse.getD j (0, 0) := by
        rw [getElem!_pos l.toArray.reverse j (by simp; omega), List.getD_eq_getElem?_getD, List.getElem?_eq_getElem (by simp; omega)]; simp
      have p0 := hP.cell (i := j) (c := 0) (by simp; omega) (by omega)
      have p1 := hP.cell (i := j) (c := 1) (by simp; omega) (by omega)
      rw [hgd] at p0 p1
      rw [Nat.zero_add] at p0 p1
      exact ⟨⟨p0.1, p1.1⟩, p0.2, p1.2⟩

/-- the profile from the other head -/
def tuL (l : List (Int × Int)) : List (Int × Int) := l.reverse.map fun q => (gX l (l.length - 1) - q.1, q.2)
def tuR (l : List (Int × Int)) : List (Int × Int) := if ckE l = 0 then tuL l else []

theorem still_tail {P : Program} {id : Nat} {Q : Exit → Act → World → Prop} {a : Act} {w : World} {l : List Oper} (n : Nat) (hm : P.follows .mixedOrders = true) (hB : Region.lexTailB .any l.toArray n = true)
    (h : wpStill P l.toArray w.drew (fun a' => wpList P l.toArray Q (l.drop n) a' w.drew) (l.take n) a) : (Code.region id l.toArray true).wp P Q a w :=
  wp_region_still_tail n hm hB h
/-- the cells while they are turned -/
def TC (W : World) (g n k : Nat) (X : Int) (f r : Nat → Int) : Prop :=
  ∀ j, j < n → (W.cell? ⟨g, j * 2, none⟩ = some (.int .i64 (if j < k then X - f j else f j)) ∧ W.cell? ⟨g, j * 2 + 1, none⟩ = some (.int .i64 (r j))) ∧ W.frozen? ⟨g, j * 2, none⟩ = false ∧ W.frozen? ⟨g, j * 2 + 1, none⟩ = false
theorem TC.drew {W : World} {g n k : Nat} {X : Int} {f r : Nat → Int} (h : TC W g n k X f r) : TC W.drew g n k X f r := h
theorem TC.step {W : World} {g n k : Nat} {X : Int} {f r : Nat → Int} (h : TC W g n k X f r) (hk : k < n) : TC (W.setCell ⟨g, k * 2, none⟩ (.int .i64 (X - f k))) g n (k + 1) X f r := by
  intro j hj
  obtain ⟨⟨h0, h1⟩, h2, h3⟩ := h j hj
  refine ⟨⟨?_, ?_⟩, by rw [World.frozen?_setCell]; exact h2, by rw [World.frozen?_setCell]; exact h3⟩
  · by_cases e : j = k
    · subst e
      rw [if_pos (by omega)]
      exact World.cell?_setCell_same _ _ _ h0
    · rw [World.cell?_setCell_other _ _ _ _ (by intro e2; simp at e2 <;> omega), h0]
      by_cases e2 : j < k
      · rw [if_pos e2, if_pos (by omega)]
      · rw [if_neg e2, if_neg (by omega)]
  · rw [World.cell?_setCell_other _ _ _ _ (by intro e2; simp at e2 <;> omega)]; exact h1

theorem Tu_bad (v : Value) (E : Int) (w : World) (e1 : (E == 0) = false) (e2 : (E != 0) = true)
    (H1 : Hid (Calls Try.prog 32 #[v] w fun e w' => e = .returned (.int .i64 E) ∧ Below w.heap.size w w')) :
    Calls Try.prog 28 #[v] w fun e w' => e = .returned (.tuple #[.slice none 0 0, .int .i64 E]) ∧ Below w.heap.size w w' := by
  go_enter Try.func28, Try.ntmps28
  go_wp2_with fail
  refine H1.out.mono ?_
  rintro e w1 ⟨rfl, gg⟩
  have X1 := Lib.hid gg; clear gg
  go_wp2
  go_returns
  exact ⟨rfl, X1.out⟩
set_option maxHeartbeats 16000000 in
set_option maxRecDepth 100000 in
theorem Tu_ok (b off n cap : Nat) (l : List (Int × Int)) (X : Int) (w : World) (n0 : 2 ≤ n) (n1 : n ≤ 32) (hcap : n ≤ cap) (hn : Hid (n = l.length)) (hX : Hid (gX l (n - 1) = X)) (bX : 0 ≤ X ∧ X ≤ 100000) (bx : Hid (∀ j, j < n → 0 ≤ gX l.reverse j ∧ gX l.reverse j ≤ 100000)) (hb : b < w.heap.size)
    (hc : Hid (∀ j, j < n → w.cell? ⟨b, off + j * 2, none⟩ = some (.int .i64 (gX l j)) ∧ w.cell? ⟨b, off + j * 2 + 1, none⟩ = some (.int .i64 (gR l j))))
    (H1 : Hid (Calls Try.prog 32 #[.slice (some ⟨b, off, none⟩) n cap] w fun e w' => e = .returned (.int .i64 0) ∧ Below w.heap.size w w')) :
    Calls Try.prog 28 #[.slice (some ⟨b, off, none⟩) n cap] w fun e w' => ∃ g c, e = .returned (.tuple #[.slice (some ⟨g, 0, none⟩) n c, .int .i64 0]) ∧ (n ≤ c ∧ c ≤ 9223372036854775807) ∧ g < w'.heap.size ∧ TC w' g n n X (gX l.reverse) (gR l.reverse) ∧ Below w.heap.size w w' := by
  obtain ⟨ti, hi, hz0, hz1, hz2⟩ := info_parts pt_info
  go_enter Try.func28, Try.ntmps28
  go_wp2_with fail
  refine H1.out.mono ?_
  rintro e w1 ⟨rfl, gg⟩
  have X1 := Lib.hid gg; clear gg
  have fl : Hid ((flat l).length = n * 2) := by show _ = _; rw [flat_len, hn.out]
  have fc : Hid (∀ j u, (flat l)[j]? = some u → w1.cell? ((⟨b, off, none⟩ : Addr).add j) = some u) := fun j u hj => by
    rw [Go.WideShapes.add_plain, (bcell X1.out).1 _ _ hb]
    exact flat_cells hn.out hc.out j u hj
  go_wp2_with (at_builtin; refine wpList_append_grows _ rfl _ _ 22 rfl 30 ti (.agg #[.int .i64 0, .int .i64 0]) 2 16 Try.underlying22 hi hz0 hz1 hz2 rfl (by decide) (some ⟨b, off, none⟩) 0 0 [] rfl (fun h => by cases h) rfl (fun b' hb' j u hj => by cases hj) ⟨b, off, none⟩ n cap (flat l) rfl fl.out fc.out (flat_one l) (by omega) (by unfold maxLen; omega) (by omega) ?_)
  intro v2 w2 hown hgrow
  have R : OwnP w2 w1.heap.size v2 l := by
    unfold OwnP
    rw [← hn.out]
    simpa using hown
  have XB : Hid (Below w.heap.size w w2) := X1.out.grown hgrow X1.out.size (fun k e => by cases e)
  have hg1 : Hid (w.heap.size ≤ w1.heap.size) := X1.out.size
  have HR := Lib.hid (reverse_p v2 l w1.heap.size w2 w2 R (by have := hn.out; omega) (Below.refl _ _) (by have := hn.out; omega))
  clear hown hgrow R fl fc
  go_wp2_with fail
  refine HR.out.mono ?_
  rintro e w3 ⟨rfl, ⟨g, c, rfl, hcc, hBg, hgl, hcell⟩, gg⟩
  rw [List.length_reverse, ← hn.out] at hcc hcell
  have XC := Lib.hid (XB.out.trans (gg.mono hg1.out)); clear gg HR XB
  have C0 : Hid (TC w3 g n 0 X (gX l.reverse) (gR l.reverse)) := fun j hj => by
    obtain ⟨⟨h0, h1⟩, h2, h3⟩ := hcell j hj
    exact ⟨⟨by rw [if_neg (by omega)]; exact h0, h1⟩, h2, h3⟩
  have el : l.reverse.length = n := by rw [List.length_reverse]; exact hn.out.symm
  rw [el]
  clear hcell el
  have hgw : w.heap.size ≤ g := Nat.le_trans hg1.out hBg
  go_wp2_with fail
  go_loopw [6, 20] (fun _ ii wr => ∃ k : Nat, k ≤ n ∧ ii = .int .i64 k ∧ Hid (Below w.heap.size w wr) ∧ Hid (TC wr g n k X (gX l.reverse) (gR l.reverse)) ∧ g < wr.heap.size) (fun _ ii _ => n - (intOf ii).toNat)
  case atStart => exact ⟨0, Nat.zero_le _, rfl, XC, C0, hgl⟩
  case round =>
    obtain ⟨k, hk, rfl, hB, hT, hgr⟩ := hrel
    by_cases hlt : k < n
    · obtain ⟨⟨c0, c1⟩, f0, f1⟩ := hT.out k hlt
      rw [if_neg (by omega)] at c0
      have bk := bx.out k hlt
      have HE : Hid (∀ W, Below w.heap.size w W → Calls Try.prog 46 #[.slice (some ⟨b, off, none⟩) n cap] W fun e w' => e = .returned (.int .i64 X) ∧ w' = W) := fun W hW => by
        have := end_any b off n cap l W (by omega) (by omega) (Lib.hid fun j hj => by rw [(bcell hW).1 _ _ hb, (bcell hW).1 _ _ hb]; exact hc.out j hj)
        rwa [hX.out] at this
      have T2 := Lib.hid (hT.out.drew.step hlt)
      have B2 : Hid (Below w.heap.size w (wr.drew.setCell ⟨g, k * 2, none⟩ (.int .i64 (X - gX l.reverse k)))) := (bel_trans hB.out (bel_drew wr)).setCell (p := ⟨g, k * 2, none⟩) hgw _
      have BD : Hid (Below w.heap.size w wr.drew) := bel_trans hB.out (bel_drew wr)
      have l1 : (k : Int) < (n : Int) := by omega
      have l2 : g < (wr.drew.setCell ⟨g, k * 2, none⟩ (.int .i64 (X - gX l.reverse k))).heap.size := by simpa [World.setCell] using hgr
      obtain ⟨x, hx⟩ : ∃ x, gX l.reverse k = x := ⟨_, rfl⟩
      rw [hx] at c0 bk T2 B2 l2
      have ws : IntKind.i64.wrap (X - x) = X - x := wrap_in _ ⟨by omega, by omega⟩
      go_wp2_with fail
      refine still_tail 12 (by kernel_rfl) (by kernel_rfl) ?_
      simp only [List.take_succ_cons, List.take_zero, List.drop_succ_cons, List.drop_zero]
      repeat still_step
      still_call ((HE.out _ BD.out).mono fun _ _ h => ⟨h.1, h.2⟩)
      repeat still_step
      refine wpStill_nil ?_
      go_wp2
      go_roundw
      case rel => exact ⟨k + 1, by omega, by go_num, B2, T2, l2⟩
      case measure => simp [intOf]; omega
    · obtain rfl : k = n := by omega
      go_wp2
      go_returns
      exact ⟨g, c, rfl, hcc, hgr, hT.out, hB.out⟩
theorem tuL_len (l : List (Int × Int)) : (tuL l).length = l.length := by simp [tuL]
theorem tu_get {l : List (Int × Int)} {j : Nat} (h : j < l.length) : gX (tuL l) j = gX l (l.length - 1) - gX l.reverse j ∧ gR (tuL l) j = gR l.reverse j := by
  have h2 : j < l.reverse.length := by simpa using h
  unfold gX gR tuL
  rw [List.getD_eq_getElem?_getD, List.getD_eq_getElem?_getD, List.getD_eq_getElem?_getD, List.getElem?_map, List.getElem?_eq_getElem h2]
  exact ⟨rfl, rfl⟩
theorem rev_get {l : List (Int × Int)} {j : Nat} (h : j < l.length) : gX l.reverse j = gX l (l.length - 1 - j) ∧ gR l.reverse j = gR l (l.length - 1 - j) := by
  unfold gX gR
  rw [List.getD_eq_getElem?_getD, List.getD_eq_getElem?_getD, List.getElem?_reverse h]
  exact ⟨rfl, rfl⟩
theorem turn_any (v : Value) (l : List (Int × Int)) (w : World) (hv : Pts w v l) :
    Calls Try.prog 28 #[v] w fun e w' => ∃ u, e = .returned (.tuple #[u, .int .i64 (ckE l)]) ∧ Pts w' u (tuR l) ∧ Below w.heap.size w w' := by
  have HC := Lib.hid (ck_any v l w hv)
  unfold tuR
  by_cases h : ckE l = 0
  · have hR := (ckE_iff l).1 h
    have n0 := hR.n0
    have n1 := hR.n1
    rw [if_pos h, h]
    rw [h] at HC
    obtain ⟨a, cap, rfl, hl, hh⟩ := hv
    rcases hh with hh | ⟨b, off, rfl, hb, hc⟩
    · omega
    · refine (Tu_ok b off l.length cap l _ w n0 n1 hl.1 (Lib.hid rfl) (Lib.hid rfl) (hR.bx _ (by omega)) (Lib.hid fun j hj => ?_) hb (Lib.hid hc) HC).mono ?_
      · rw [(rev_get hj).1]; exact hR.bx _ (by omega)
      · rintro e w' ⟨g, c, rfl, hcc, hg, hT, hB⟩
        refine ⟨_, rfl, ⟨_, c, by rw [tuL_len], by rw [tuL_len]; exact hcc, .inr ⟨g, 0, rfl, hg, fun j hj => ?_⟩⟩, hB⟩
        rw [tuL_len] at hj
        obtain ⟨⟨h0, h1⟩, _⟩ := hT j hj
        rw [if_pos hj] at h0
        obtain ⟨e1, e2⟩ := tu_get hj
        rw [e1, e2, Nat.zero_add]
        exact ⟨h0, h1⟩
  · rw [if_neg h]
    exact (Tu_bad v _ w (by simpa using h) (by simpa using h) HC).mono fun _ w' g => ⟨_, g.1, pts_nil w', g.2⟩
end Go.Proofs.Ytpnlfeljmpfeoab

/- The contracts of the program that layer 10 uses. -/

/- Plain facts of the statements of layer 8. -/
namespace Go.Proofs.Ytpnlfeljmpfeoab

theorem gX_lt {l : List (Int × Int)} (h : RP l) {i j : Nat} (hij : i < j) (hj : j < l.length) : gX l i < gX l j := by
  induction j with
  | zero => omega
  | succ j ih =>
    have a := h.asc j hj
    by_cases e : i = j
    · rw [e]; exact a
    · have := ih (by omega) (by omega); omega
theorem gX_le {l : List (Int × Int)} (h : RP l) {i j : Nat} (hij : i ≤ j) (hj : j < l.length) : gX l i ≤ gX l j := by
  by_cases e : i = j
  · rw [e]; exact Int.le_refl _
  · have := gX_lt h (i := i) (j := j) (by omega) hj; omega
/-- the radius at a point -/
theorem rd_at {l : List (Int × Int)} (h : RP l) {j : Nat} (hj : j < l.length) : rdL l (gX l j) = gR l j ∧ rdH l (gX l j) = gR l j := by
  have n0 := h.n0
  by_cases e : j = 0
  · subst e
    have e1 : pc l (gX l 0) = 1 := pc_of ⟨by omega, by omega, gX_le h (by omega) (by omega), fun k k1 k2 => by omega⟩
    have a : gX l 0 < gX l 1 := h.asc 0 (by omega)
    unfold rdL rdH lnL lnH
    rw [e1]
    show lnN (gX l 0) (gR l 0) (gX l 1) (gR l 1) (gX l 0) / (gX l 1 - gX l 0) = gR l 0 ∧ cdv (lnN (gX l 0) (gR l 0) (gX l 1) (gR l 1) (gX l 0)) (gX l 1 - gX l 0) = gR l 0
    rw [lnN_left]
    exact ⟨fl_int _ _ (by omega), cl_int _ _ (by omega)⟩
  · have e1 : pc l (gX l j) = j := pc_of ⟨by omega, hj, Int.le_refl _, fun k k1 k2 => gX_lt h k2 hj⟩
    have a := gX_lt h (i := j - 1) (j := j) (by omega) hj
    unfold rdL rdH lnL lnH
    rw [e1, lnN_right]
    exact ⟨fl_int _ _ (by omega), cl_int _ _ (by omega)⟩
/-- bounds of the radius by the piece's ends -/
theorem rd_bd {l : List (Int × Int)} {x : Int} (h : RP l) (x0 : 0 ≤ x) (x1 : x ≤ gX l (l.length - 1)) :
    min (gR l (pc l x - 1)) (gR l (pc l x)) ≤ rdL l x ∧ rdL l x ≤ rdH l x ∧ rdH l x ≤ rdL l x + 1 ∧ rdH l x ≤ max (gR l (pc l x - 1)) (gR l (pc l x)) := by
  have hi := pc_is h.n0 x1
  obtain ⟨_, _, ⟨b0, b1, b2⟩, ⟨c0, c1⟩, ⟨d0, d1⟩, g0, g1⟩ := pc_bd h x0 hi
  have bt := ln_between (p := gR l (pc l x - 1)) (q := gR l (pc l x)) b1 g0 g1
  have fc := fl_cl (lnN (gX l (pc l x - 1)) (gR l (pc l x - 1)) (gX l (pc l x)) (gR l (pc l x)) x) (gX l (pc l x) - gX l (pc l x - 1)) (by omega)
  unfold rdL rdH lnL lnH
  omega
theorem pc_mono {l : List (Int × Int)} {u v : Int} (h : RP l) (uv : u ≤ v) (x1 : v ≤ gX l (l.length - 1)) : pc l u ≤ pc l v := by
  have a := pc_is h.n0 (show u ≤ gX l (l.length - 1) by omega)
  have b := pc_is h.n0 x1
  rcases Nat.lt_or_ge (pc l v) (pc l u) with g | g
  · have := a.h4 _ b.h1 g
    have := b.h3
    omega
  · exact g
theorem chain_up {l : List (Int × Int)} {i : Nat} (hup : ∀ j, j < i → gR l j ≤ gR l (j + 1)) {s t : Nat} (hst : s ≤ t) (ht : t ≤ i) : gR l s ≤ gR l t := by
  induction t with
  | zero => obtain rfl : s = 0 := by omega
            exact Int.le_refl _
  | succ t ih =>
    by_cases e : s = t + 1
    · rw [e]; exact Int.le_refl _
    · have := ih (by omega) (by omega)
      have := hup t (by omega)
      omega
theorem chain_dn {l : List (Int × Int)} {i : Nat} (hdn : ∀ j, i ≤ j → j + 1 < l.length → gR l (j + 1) ≤ gR l j) {s t : Nat} (hs : i ≤ s) (hst : s ≤ t) (ht : t < l.length) : gR l t ≤ gR l s := by
  induction t with
  | zero => obtain rfl : s = 0 := by omega
            exact Int.le_refl _
  | succ t ih =>
    by_cases e : s = t + 1
    · rw [e]; exact Int.le_refl _
    · have := ih (by omega) (by omega)
      have := hdn t (by omega) ht
      omega
theorem rd_up {l : List (Int × Int)} {i : Nat} {u v : Int} (h : RP l) (hi : i < l.length) (hup : ∀ j, j < i → gR l j ≤ gR l (j + 1)) (u0 : 0 ≤ u) (uv : u ≤ v) (v1 : v ≤ gX l i) : rdL l u ≤ rdL l v ∧ rdH l u ≤ rdH l v := by
  have n0 := h.n0
  have hm := gX_le h (i := i) (j := l.length - 1) (by omega) (by omega)
  by_cases e0 : i = 0
  · subst e0
    have := h.x0
    obtain rfl : u = v := by omega
    exact ⟨Int.le_refl _, Int.le_refl _⟩
  · have b := pc_is n0 (show v ≤ gX l (l.length - 1) by omega)
    have ti : pc l v ≤ i := by
      rcases Nat.lt_or_ge i (pc l v) with g | g
      · have := b.h4 i (by omega) g; omega
      · exact g
    have st := pc_mono h uv (show v ≤ gX l (l.length - 1) by omega)
    have a := pc_is n0 (show u ≤ gX l (l.length - 1) by omega)
    have s1 := a.h1
    have ru := rd_bd h u0 (show u ≤ gX l (l.length - 1) by omega)
    have rv := rd_bd h (show 0 ≤ v by omega) (show v ≤ gX l (l.length - 1) by omega)
    by_cases e : pc l u = pc l v
    · have q := hup (pc l v - 1) (by omega)
      rw [show pc l v - 1 + 1 = pc l v by omega] at q
      have d := gX_lt h (i := pc l v - 1) (j := pc l v) (by omega) (by omega)
      have L := lnN_up (a := gX l (pc l v - 1)) (b := gX l (pc l v)) q uv
      unfold rdL rdH lnL lnH cdv
      rw [e]
      exact ⟨Int.ediv_le_ediv (by omega) L, Int.ediv_le_ediv (by omega) (by omega)⟩
    · have c1 := chain_up hup (s := pc l u - 1) (t := pc l u) (by omega) (by omega)
      have c2 := chain_up hup (s := pc l u) (t := pc l v - 1) (by omega) (by omega)
      have c3 := chain_up hup (s := pc l v - 1) (t := pc l v) (by omega) (by omega)
      omega
theorem rd_dn {l : List (Int × Int)} {i : Nat} {u v : Int} (h : RP l) (hi : i < l.length) (hdn : ∀ j, i ≤ j → j + 1 < l.length → gR l (j + 1) ≤ gR l j) (hmx : ∀ j, j < l.length → gR l j ≤ gR l i) (u0 : gX l i ≤ u) (uv : u ≤ v) (v1 : v ≤ gX l (l.length - 1)) : rdL l v ≤ rdL l u ∧ rdH l v ≤ rdH l u := by
  have n0 := h.n0
  have i0 := (h.bx i hi).1
  have rv := rd_bd h (show 0 ≤ v by omega) v1
  have b := pc_is n0 v1
  have bl := b.h2
  have m1 := hmx (pc l v) bl
  have m2 := hmx (pc l v - 1) (by omega)
  by_cases e0 : u = gX l i
  · have r := rd_at h hi
    rw [← e0] at r
    omega
  · have a := pc_is n0 (show u ≤ gX l (l.length - 1) by omega)
    have s1 := a.h1
    have al := a.h2
    have si : i < pc l u := by
      rcases Nat.lt_or_ge i (pc l u) with g | g
      · exact g
      · have := gX_le h g hi
        have := a.h3
        omega
    have st := pc_mono h uv v1
    have ru := rd_bd h (show 0 ≤ u by omega) (show u ≤ gX l (l.length - 1) by omega)
    by_cases e : pc l u = pc l v
    · have q := hdn (pc l v - 1) (by omega) (by omega)
      rw [show pc l v - 1 + 1 = pc l v by omega] at q
      have d := gX_lt h (i := pc l v - 1) (j := pc l v) (by omega) (by omega)
      have L := lnN_down (a := gX l (pc l v - 1)) (b := gX l (pc l v)) q uv
      unfold rdL rdH lnL lnH cdv
      rw [e]
      exact ⟨Int.ediv_le_ediv (by omega) L, Int.ediv_le_ediv (by omega) (by omega)⟩
    · have c1 := chain_dn hdn (s := pc l u - 1) (t := pc l u) (by omega) (by omega) (by omega)
      have c2 := chain_dn hdn (s := pc l u) (t := pc l v - 1) (by omega) (by omega) (by omega)
      have c3 := chain_dn hdn (s := pc l v - 1) (t := pc l v) (by omega) (by omega) (by omega)
      omega
/-- up to the bung the radii do not fall, and behind it they do not rise -/
theorem bg_sides {l : List (Int × Int)} (h : RP l) : bg l l.length < l.length ∧ (∀ j, j < l.length → gR l j ≤ gR l (bg l l.length)) ∧ (∀ j, j < bg l l.length → gR l j ≤ gR l (j + 1)) ∧ (∀ j, bg l l.length ≤ j → j + 1 < l.length → gR l (j + 1) ≤ gR l j) := by
  have n0 := h.n0
  have hl : bg l l.length < l.length := by have := bg_lt l l.length; omega
  have hm := bg_max l l.length
  refine ⟨hl, hm, fun j hj => ?_, fun j hj hj2 => ?_⟩
  · by_cases g : gR l (j + 1) < gR l j
    · have : ∀ t, j + 1 ≤ t → t < l.length → gR l t ≤ gR l (j + 1) := fun t h1 h2 => chain_dn (i := j) (fun k k1 k2 => h.ns j k k1 k2 g) (by omega) h1 h2
      have := this _ (by omega) hl
      have := hm j (by omega)
      omega
    · omega
  · by_cases g : gR l j < gR l (j + 1)
    · have hup : ∀ k, k < j → gR l k ≤ gR l (k + 1) := fun k hk => by
        by_cases g2 : gR l (k + 1) < gR l k
        · have := h.ns k j (by omega) hj2 g2; omega
        · omega
      have := chain_up hup (s := bg l l.length) (t := j) hj (Nat.le_refl _)
      have := hm (j + 1) hj2
      omega
    · omega
theorem least_end {l : List (Int × Int)} (h : RP l) {j : Nat} (hj : j < l.length) : min (gR l 0) (gR l (l.length - 1)) ≤ gR l j := by
  obtain ⟨b1, b2, b3, b4⟩ := bg_sides h
  by_cases g : j ≤ bg l l.length
  · have := chain_up b3 (s := 0) (t := j) (by omega) g
    omega
  · have := chain_dn b4 (s := j) (t := l.length - 1) (by omega) (by omega) (by omega)
    omega
theorem bulge_facts {l : List (Int × Int)} {u v : Int} (h : RP l) (u0 : 0 ≤ u) (uv : u ≤ v) (v1 : v ≤ gX l (l.length - 1)) :
    rdL l u ≤ rdH l u ∧ rdH l u - rdL l u ≤ 1 ∧ rdH l u ≤ gR l (bg l l.length) ∧ min (gR l 0) (gR l (l.length - 1)) ≤ rdL l u ∧ (v ≤ gX l (bg l l.length) → rdL l u ≤ rdL l v ∧ rdH l u ≤ rdH l v) ∧ (gX l (bg l l.length) ≤ u → rdL l v ≤ rdL l u ∧ rdH l v ≤ rdH l u) := by
  obtain ⟨b1, b2, b3, b4⟩ := bg_sides h
  have ru := rd_bd h u0 (show u ≤ gX l (l.length - 1) by omega)
  have a := pc_is h.n0 (show u ≤ gX l (l.length - 1) by omega)
  have s1 := a.h1
  have s2 := a.h2
  have m1 := b2 (pc l u) s2
  have m2 := b2 (pc l u - 1) (by omega)
  have e1 := least_end h s2
  have e2 := least_end h (j := pc l u - 1) (by omega)
  refine ⟨ru.2.1, by omega, by omega, by omega, fun g => rd_up h b1 b3 u0 uv g, fun g => rd_dn h b1 b4 b2 g uv v1⟩
theorem at_none {l : List (Int × Int)} {x : Int} (h : plE l x ≠ 0) : atL l x = 0 ∧ atH l x = 0 := by
  unfold atL atH; rw [if_neg h, if_neg h]; exact ⟨rfl, rfl⟩
theorem at_some {l : List (Int × Int)} {x : Int} (h : plE l x = 0) : atL l x = rdL l x ∧ atH l x = rdH l x := by
  unfold atL atH; rw [if_pos h, if_pos h]; exact ⟨rfl, rfl⟩
end Go.Proofs.Ytpnlfeljmpfeoab

/- Plain facts: profiles that are turned. -/
namespace Go.Proofs.Ytpnlfeljmpfeoab

theorem tu_at {l : List (Int × Int)} {j : Nat} (h : j < l.length) : gX (tuL l) j = gX l (l.length - 1) - gX l (l.length - 1 - j) ∧ gR (tuL l) j = gR l (l.length - 1 - j) := by
  have a := tu_get h
  have b := rev_get h
  rw [a.1, a.2, b.1, b.2]
  exact ⟨rfl, rfl⟩
theorem tu_right {l : List (Int × Int)} (h : RP l) : RP (tuL l) := by
  have hl := tuL_len l
  have n0 := h.n0
  have n1 := h.n1
  have bl := h.bx (l.length - 1) (by omega)
  refine ⟨by omega, by omega, fun i hi => ?_, fun i hi => ?_, ?_, fun i hi => ?_, fun i j hij hj hf => ?_⟩
  · rw [hl] at hi
    rw [(tu_at hi).1]
    have a := h.bx (l.length - 1 - i) (by omega)
    have b := gX_le h (i := l.length - 1 - i) (j := l.length - 1) (by omega) (by omega)
    omega
  · rw [hl] at hi
    rw [(tu_at hi).2]
    exact h.br _ (by omega)
  · rw [(tu_at (l := l) (j := 0) (by omega)).1]
    rw [show l.length - 1 - 0 = l.length - 1 by omega]
    omega
  · rw [hl] at hi
    rw [(tu_at (l := l) (j := i) (by omega)).1, (tu_at hi).1]
    have := gX_lt h (i := l.length - 1 - (i + 1)) (j := l.length - 1 - i) (by omega) (by omega)
    omega
  · rw [hl] at hj
    rw [(tu_at (l := l) (j := i) (by omega)).2, (tu_at (l := l) (j := i + 1) (by omega)).2] at hf
    rw [(tu_at (l := l) (j := j) (by omega)).2, (tu_at hj).2]
    by_cases g : gR l (l.length - 1 - j) < gR l (l.length - 1 - (j + 1))
    · have e1 : l.length - 1 - j = l.length - 1 - (j + 1) + 1 := by omega
      have e2 : l.length - 1 - i = l.length - 1 - (i + 1) + 1 := by omega
      rw [e1] at g
      have := h.ns (l.length - 1 - (j + 1)) (l.length - 1 - (i + 1)) (by omega) (by omega) g
      rw [e2] at hf
      omega
    · omega
theorem tu_last {l : List (Int × Int)} (h : RP l) : gX (tuL l) ((tuL l).length - 1) = gX l (l.length - 1) := by
  have hl := tuL_len l
  have n0 := h.n0
  rw [hl, (tu_at (l := l) (j := l.length - 1) (by omega)).1, show l.length - 1 - (l.length - 1) = 0 by omega, h.x0]
  omega
theorem tu_tu {l : List (Int × Int)} (h : RP l) : tuL (tuL l) = l := by
  have hl := tuL_len l
  have hl2 := tuL_len (tuL l)
  have n0 := h.n0
  refine sam_eq (by omega) fun j hj => ?_
  rw [hl2, hl] at hj
  have a := tu_at (l := tuL l) (j := j) (by omega)
  rw [tu_last h, hl] at a
  have b := tu_at (l := l) (j := l.length - 1 - j) (by omega)
  rw [show l.length - 1 - (l.length - 1 - j) = j by omega] at b
  rw [a.1, a.2, b.1, b.2, show gX l (l.length - 1) - (gX l (l.length - 1) - gX l j) = gX l j by omega]
  simp [samP]
theorem tu_rd {l : List (Int × Int)} (h : RP l) {x : Int} (x0 : 0 ≤ x) (x1 : x ≤ gX l (l.length - 1)) : rdL (tuL l) (gX l (l.length - 1) - x) = rdL l x ∧ rdH (tuL l) (gX l (l.length - 1) - x) = rdH l x := by
  have hl := tuL_len l
  have n0 := h.n0
  have ht := tu_right h
  have hi := pc_is n0 x1
  obtain ⟨i1, i2, _, _, _, g0, g1⟩ := pc_bd h x0 hi
  by_cases e : x = gX l (pc l x)
  · have r := rd_at h i2
    rw [← e] at r
    have t := tu_at (l := l) (j := l.length - 1 - pc l x) (by omega)
    rw [show l.length - 1 - (l.length - 1 - pc l x) = pc l x by omega, ← e] at t
    have rt := rd_at ht (j := l.length - 1 - pc l x) (by omega)
    rw [t.1, t.2] at rt
    omega
  · have a := tu_at (l := l) (j := l.length - pc l x - 1) (by omega)
    rw [show l.length - 1 - (l.length - pc l x - 1) = pc l x by omega] at a
    have b := tu_at (l := l) (j := l.length - pc l x) (by omega)
    rw [show l.length - 1 - (l.length - pc l x) = pc l x - 1 by omega] at b
    have e1 : pc (tuL l) (gX l (l.length - 1) - x) = l.length - pc l x := by
      refine pc_of ⟨by omega, by omega, by rw [b.1]; omega, fun j j1 j2 => ?_⟩
      have m := gX_le ht (i := j) (j := l.length - pc l x - 1) (by omega) (by omega)
      rw [a.1] at m
      omega
    have lt := ln_turn (gX l (pc l x - 1)) (gR l (pc l x - 1)) (gX l (pc l x)) (gR l (pc l x)) x (gX l (l.length - 1))
    unfold rdL rdH lnL lnH
    rw [e1, a.1, a.2, b.1, b.2, lt.1, lt.2]
    exact ⟨rfl, rfl⟩
theorem tu_none {l : List (Int × Int)} (h : ckE l ≠ 0) : tuR l = [] := by unfold tuR; rw [if_neg h]
theorem tu_some {l : List (Int × Int)} (h : ckE l = 0) : tuR l = tuL l ∧ ckE (tuL l) = 0 ∧ tuR (tuL l) = l ∧ lgQ (tuL l) = gX l (l.length - 1) := by
  have hR := (ckE_iff l).1 h
  have c := (ckE_iff (tuL l)).2 (tu_right hR)
  refine ⟨by unfold tuR; rw [if_pos h], c, by unfold tuR; rw [if_pos c, tu_tu hR], ?_⟩
  unfold lgQ
  rw [if_pos c, tu_last hR]
theorem tu_pl {l : List (Int × Int)} (h : ckE l = 0) {x : Int} (x0 : 0 ≤ x) (x1 : x ≤ gX l (l.length - 1)) : plE l x = 0 ∧ plE (tuL l) (gX l (l.length - 1) - x) = 0 := by
  have hR := (ckE_iff l).1 h
  refine ⟨plE_zero.2 ⟨hR, x0, x1⟩, plE_zero.2 ⟨tu_right hR, by omega, ?_⟩⟩
  rw [tu_last hR]; omega
end Go.Proofs.Ytpnlfeljmpfeoab

/- Plain facts of a profile in which a point was inserted. No program stands in this text. -/
namespace Go.Proofs.Ytpnlfeljmpfeoab

def ins (l : List (Int × Int)) (i : Nat) (q : Int × Int) : List (Int × Int) := l.take i ++ [q] ++ l.drop i
theorem ins_len {l : List (Int × Int)} {i : Nat} (q : Int × Int) (hi : i ≤ l.length) : (ins l i q).length = l.length + 1 := by
  unfold ins; simp only [List.length_append, List.length_take, List.length_drop, List.length_cons, List.length_nil]; omega
theorem ins_at {l : List (Int × Int)} {i : Nat} (q : Int × Int) (hi : i ≤ l.length) (j : Nat) : (ins l i q).getD j (0, 0) = if j < i then l.getD j (0, 0) else if j = i then q else l.getD (j - 1) (0, 0) := by
  unfold ins
  simp only [List.getD_eq_getElem?_getD]
  have e : (l.take i).length = i := by simp only [List.length_take]; omega
  by_cases a : j < i
  · rw [if_pos a, List.append_assoc, List.getElem?_append_left (by omega), List.getElem?_take, if_pos a]
  · rw [if_neg a, List.append_assoc, List.getElem?_append_right (by omega), e]
    by_cases b : j = i
    · rw [if_pos b, b, Nat.sub_self]; rfl
    · rw [if_neg b, show j - i = (j - i - 1) + 1 by omega]
      simp only [List.singleton_append, List.getElem?_cons_succ, List.getElem?_drop]
      rw [show i + (j - i - 1) = j - 1 by omega]
theorem ins_lo {l : List (Int × Int)} {i : Nat} (q : Int × Int) (hi : i ≤ l.length) {j : Nat} (h : j < i) : gX (ins l i q) j = gX l j ∧ gR (ins l i q) j = gR l j := by
  unfold gX gR; rw [ins_at q hi, if_pos h]; exact ⟨rfl, rfl⟩
theorem ins_mi {l : List (Int × Int)} {i : Nat} (q : Int × Int) (hi : i ≤ l.length) : gX (ins l i q) i = q.1 ∧ gR (ins l i q) i = q.2 := by
  unfold gX gR; rw [ins_at q hi, if_neg (by omega), if_pos rfl]; exact ⟨rfl, rfl⟩
theorem ins_hi {l : List (Int × Int)} {i : Nat} (q : Int × Int) (hi : i ≤ l.length) {j : Nat} (h : i ≤ j) : gX (ins l i q) (j + 1) = gX l j ∧ gR (ins l i q) (j + 1) = gR l j := by
  unfold gX gR; rw [ins_at q hi, if_neg (by omega), if_neg (by omega), Nat.add_sub_cancel]; exact ⟨rfl, rfl⟩

/-- a right profile l, a piece i of it, and a point (x, r) in it between its ends -/
structure InP (l : List (Int × Int)) (i : Nat) (x r : Int) : Prop where
  R : RP l
  n1 : l.length ≤ 31
  i1 : 1 ≤ i
  i2 : i < l.length
  a : gX l (i - 1) < x
  b : x < gX l i
  rr : r * (gX l i - gX l (i - 1)) = lnN (gX l (i - 1)) (gR l (i - 1)) (gX l i) (gR l i) x
  lo : min (gR l (i - 1)) (gR l i) ≤ r
  hi : r ≤ max (gR l (i - 1)) (gR l i)
/-- a piece of the new profile lies in a piece of the old one -/
theorem ins_seg {l : List (Int × Int)} {i : Nat} {x r : Int} (h : InP l i x r) (j : Nat) (hj : j < l.length) :
    gX (ins l i (x, r)) j < gX (ins l i (x, r)) (j + 1) ∧ (gR (ins l i (x, r)) (j + 1) < gR (ins l i (x, r)) j → gR l ((if j < i then j else j - 1) + 1) < gR l (if j < i then j else j - 1)) ∧ (gR l ((if j < i then j else j - 1) + 1) ≤ gR l (if j < i then j else j - 1) → gR (ins l i (x, r)) (j + 1) ≤ gR (ins l i (x, r)) j) ∧ (if j < i then j else j - 1) + 1 < l.length := by
  obtain ⟨R, n1, i1, i2, a, b, rr, lo, hi⟩ := h
  have n0 := R.n0
  have il : i ≤ l.length := by omega
  have M := ins_mi (x, r) il
  have L := fun k => ins_lo (x, r) il (j := k)
  have U := fun k => ins_hi (x, r) il (j := k)
  rcases Nat.lt_trichotomy (j + 1) i with g | g | g
  · rw [(L _ g).1, (L _ g).2, (L j (by omega)).1, (L j (by omega)).2, if_pos (by omega)]
    have := R.asc j (by omega)
    exact ⟨this, fun k => k, fun k => k, by omega⟩
  · obtain rfl : i = j + 1 := by omega
    rw [Nat.add_sub_cancel] at *
    rw [M.1, M.2, (L j (by omega)).1, (L j (by omega)).2, if_pos (by omega)]
    exact ⟨a, fun k => by simp only at k; omega, fun k => by simp only; omega, by omega⟩
  · by_cases e : j = i
    · subst e
      rw [M.1, M.2, (U j (by omega)).1, (U j (by omega)).2, if_neg (by omega), show j - 1 + 1 = j by omega]
      exact ⟨b, fun k => by simp only at k; omega, fun k => by simp only; omega, by omega⟩
    · have u1 := U j (by omega)
      have u2 := U (j - 1) (by omega)
      rw [show j - 1 + 1 = j by omega] at u2
      rw [u1.1, u1.2, u2.1, u2.2, if_neg (by omega), show j - 1 + 1 = j by omega]
      have := R.asc (j - 1) (by omega)
      rw [show j - 1 + 1 = j by omega] at this
      exact ⟨this, fun k => k, fun k => k, by omega⟩
theorem ins_pt {l : List (Int × Int)} {i : Nat} {x r : Int} (h : InP l i x r) (j : Nat) (hj : j < l.length + 1) :
    (gX (ins l i (x, r)) j = x ∧ gR (ins l i (x, r)) j = r) ∨ ∃ k, k < l.length ∧ gX (ins l i (x, r)) j = gX l k ∧ gR (ins l i (x, r)) j = gR l k := by
  have il : i ≤ l.length := by have := h.i2; omega
  rcases Nat.lt_trichotomy j i with g | g | g
  · exact .inr ⟨j, by omega, ins_lo _ il g⟩
  · subst g; exact .inl (ins_mi (x, r) il)
  · have := ins_hi (x, r) il (j := j - 1) (by omega)
    rw [show j - 1 + 1 = j by omega] at this
    exact .inr ⟨j - 1, by omega, this⟩
theorem ins_R {l : List (Int × Int)} {i : Nat} {x r : Int} (h : InP l i x r) : RP (ins l i (x, r)) := by
  have hS := ins_seg h
  have hP := ins_pt h
  obtain ⟨R, n1, i1, i2, a, b, rr, lo, hi⟩ := h
  have n0 := R.n0
  have il : i ≤ l.length := by omega
  have hl := ins_len (x, r) il
  have c1 := R.bx (i - 1) (by omega)
  have c2 := R.bx i i2
  have d1 := R.br (i - 1) (by omega)
  have d2 := R.br i i2
  refine ⟨by omega, by omega, fun j hj => ?_, fun j hj => ?_, ?_, fun j hj => (hS j (by omega)).1, fun j k jk hk hf => ?_⟩
  · rcases hP j (by omega) with ⟨e, _⟩ | ⟨k, hk, e, _⟩
    · rw [e]; omega
    · rw [e]; exact R.bx k hk
  · rcases hP j (by omega) with ⟨_, e⟩ | ⟨k, hk, _, e⟩
    · rw [e]; omega
    · rw [e]; exact R.br k hk
  · rw [(ins_lo (x, r) il (j := 0) (by omega)).1]; exact R.x0
  · have s1 := hS j (by omega)
    have s2 := hS k (by omega)
    refine s2.2.2.1 (R.ns _ _ ?_ s2.2.2.2 (s1.2.1 hf))
    split <;> split <;> omega
theorem ins_last {l : List (Int × Int)} {i : Nat} {x r : Int} (h : InP l i x r) : gX (ins l i (x, r)) ((ins l i (x, r)).length - 1) = gX l (l.length - 1) := by
  have i2 := h.i2
  have il : i ≤ l.length := by omega
  rw [ins_len (x, r) il]
  have := (ins_hi (x, r) il (j := l.length - 1) (by omega)).1
  rw [show l.length - 1 + 1 = l.length + 1 - 1 by omega] at this
  exact this
theorem ins_rd {l : List (Int × Int)} {i : Nat} {x r y : Int} (h : InP l i x r) (y0 : 0 ≤ y) (y1 : y ≤ gX l (l.length - 1)) :
    rdL (ins l i (x, r)) y = rdL l y ∧ rdH (ins l i (x, r)) y = rdH l y := by
  have hR := ins_R h
  obtain ⟨R, n1, i1, i2, a, b, rr, lo, hi⟩ := h
  have n0 := R.n0
  have il : i ≤ l.length := by omega
  have hl := ins_len (x, r) il
  have M := ins_mi (x, r) il
  have L := fun k => ins_lo (x, r) il (j := k)
  have U := fun k => ins_hi (x, r) il (j := k)
  have hy := pc_is n0 y1
  obtain ⟨p1, p2, p3, p4⟩ := hy
  have mle : ∀ s t, s ≤ t → t < l.length + 1 → gX (ins l i (x, r)) s ≤ gX (ins l i (x, r)) t := fun s t st ht => gX_le hR st (by omega)
  have y2 : pc l y = 1 ∨ gX l (pc l y - 1) < y := by
    by_cases e : pc l y = 1
    · exact .inl e
    · exact .inr (p4 _ (by omega) (by omega))
  have x0 := R.x0
  rcases Nat.lt_trichotomy (pc l y) i with g | g | g
  · have e1 : pc (ins l i (x, r)) y = pc l y := pc_of ⟨p1, by omega, by rw [(L _ g).1]; exact p3, fun j j1 j2 => by rw [(L j (by omega)).1]; exact p4 j j1 j2⟩
    unfold rdL rdH
    rw [e1, (L _ g).1, (L _ g).2, (L (pc l y - 1) (by omega)).1, (L (pc l y - 1) (by omega)).2]
    exact ⟨rfl, rfl⟩
  · by_cases e : y ≤ x
    · have e1 : pc (ins l i (x, r)) y = i := pc_of ⟨i1, by omega, by rw [M.1]; exact e, fun j j1 j2 => by rw [(L j j2).1]; exact p4 j j1 (by omega)⟩
      have P := ln_part1 (p := gR l (i - 1)) (q := gR l i) (x := y) (show gX l (i - 1) < gX l i by omega) a rr
      unfold rdL rdH lnL lnH
      rw [e1, M.1, M.2, (L (i - 1) (by omega)).1, (L (i - 1) (by omega)).2, g]
      exact P
    · have u := U i (by omega)
      have e1 : pc (ins l i (x, r)) y = i + 1 := pc_of ⟨by omega, by omega, by rw [u.1, ← g]; exact p3, fun j j1 j2 => by
        have := mle j i (by omega) (by omega)
        rw [M.1] at this
        simp only at this
        omega⟩
      have P := ln_part2 (p := gR l (i - 1)) (q := gR l i) (x := y) (show gX l (i - 1) < gX l i by omega) b rr
      unfold rdL rdH lnL lnH
      rw [e1, Nat.add_sub_cancel, M.1, M.2, u.1, u.2, g]
      exact P
  · have u1 := U (pc l y) (by omega)
    have u2 := U (pc l y - 1) (by omega)
    rw [show pc l y - 1 + 1 = pc l y by omega] at u2
    have e1 : pc (ins l i (x, r)) y = pc l y + 1 := pc_of ⟨by omega, by omega, by rw [u1.1]; exact p3, fun j j1 j2 => by
      have := mle j (pc l y) (by omega) (by omega)
      rw [u2.1] at this
      omega⟩
    unfold rdL rdH
    rw [e1, Nat.add_sub_cancel, u1.1, u1.2, u2.1, u2.2]
    exact ⟨rfl, rfl⟩
theorem ins_bg {l : List (Int × Int)} {i : Nat} {x r : Int} (h : InP l i x r) : gR (ins l i (x, r)) (bg (ins l i (x, r)) (ins l i (x, r)).length) = gR l (bg l l.length) := by
  have hR := ins_R h
  have hP := ins_pt h
  have il : i ≤ l.length := by have := h.i2; omega
  have hl := ins_len (x, r) il
  obtain ⟨a1, a2, _, _⟩ := bg_sides h.R
  obtain ⟨b1, b2, _, _⟩ := bg_sides hR
  have i1 := h.i1
  have i2 := h.i2
  have hi := h.hi
  have t1 := a2 (i - 1) (by omega)
  have t2 := a2 i i2
  have le : gR (ins l i (x, r)) (bg (ins l i (x, r)) (ins l i (x, r)).length) ≤ gR l (bg l l.length) := by
    rcases hP _ (show bg (ins l i (x, r)) (ins l i (x, r)).length < l.length + 1 by omega) with ⟨_, e⟩ | ⟨k, hk, _, e⟩
    · rw [e]; omega
    · rw [e]; exact a2 k hk
  have ge : gR l (bg l l.length) ≤ gR (ins l i (x, r)) (bg (ins l i (x, r)) (ins l i (x, r)).length) := by
    by_cases g : bg l l.length < i
    · have := b2 (bg l l.length) (by omega)
      rw [(ins_lo (x, r) il g).2] at this
      exact this
    · have := b2 (bg l l.length + 1) (by omega)
      rw [(ins_hi (x, r) il (j := bg l l.length) (by omega)).2] at this
      exact this
  omega
theorem fl_eq {n d : Int} (h : 0 < d) (e : n / d = cdv n d) : n / d * d = n := by
  have a := Int.ediv_mul_le n (show d ≠ 0 by omega)
  have b := cl_ge n d h
  rw [← e] at b
  omega
/-- what Insert gives, where it gives something -/
theorem ix_in {l : List (Int × Int)} {x : Int} (h : ixE l x = 0) : InP l (pc l x) x (rdL l x) ∧ ixL l x = ins l (pc l x) (x, rdL l x) ∧ plE l x = 0 := by
  have h0 := h
  unfold ixE at h
  split at h
  case isFalse g => exact absurd h g
  case isTrue g =>
    split at h
    · omega
    · rename_i g2
      split at h
      · omega
      · rename_i g3
        split at h
        · omega
        · rename_i g4
          obtain ⟨R, x0, x1⟩ := plE_zero.1 g
          have hi := pc_is R.n0 x1
          obtain ⟨i1, i2, d1, d2, d3, g0, g1⟩ := pc_bd R x0 hi
          have rb := rd_bd R x0 x1
          have n1 := R.n1
          have e3 : rdL l x = rdH l x := by omega
          have rr := fl_eq (n := lnN (gX l (pc l x - 1)) (gR l (pc l x - 1)) (gX l (pc l x)) (gR l (pc l x)) x) (d := gX l (pc l x) - gX l (pc l x - 1)) (by omega) e3
          refine ⟨⟨R, by omega, i1, i2, by omega, by omega, rr, rb.1, by omega⟩, ?_, g⟩
          unfold ixL
          rw [if_pos h0]; rfl
theorem ins_pl {l : List (Int × Int)} {i : Nat} {x r : Int} (h : InP l i x r) (y : Int) : plE (ins l i (x, r)) y = plE l y ∧ atL (ins l i (x, r)) y = atL l y ∧ atH (ins l i (x, r)) y = atH l y := by
  have hR := ins_R h
  have e : plE (ins l i (x, r)) y = plE l y := by
    unfold plE
    rw [(ckE_iff _).2 hR, (ckE_iff _).2 h.R, ins_last h]
  refine ⟨e, ?_⟩
  by_cases g : plE l y = 0
  · obtain ⟨_, y0, y1⟩ := plE_zero.1 g
    have s1 := at_some g
    have s2 := at_some (e.trans g)
    rw [s1.1, s1.2, s2.1, s2.2]
    exact ins_rd h y0 y1
  · have s1 := at_none g
    have s2 := at_none (l := ins l i (x, r)) (x := y) (by rw [e]; exact g)
    rw [s1.1, s1.2, s2.1, s2.2]
    exact ⟨rfl, rfl⟩
end Go.Proofs.Ytpnlfeljmpfeoab

/- Plain facts of sums of frustums: turned, inserted, parts, wider ones. No program stands in this text. -/
namespace Go.Proofs.Ytpnlfeljmpfeoab

/-! ### turned, inserted, parts, wider ones -/
theorem fr_turn (l : List (Int × Int)) (k : Nat) (hk : k < l.length) : fr (tuL l) k + fr l (l.length - 1 - k) = fr l (l.length - 1) := by
  induction k with
  | zero => simp [fr]
  | succ k ih =>
    have ih := ih (by omega)
    have a := tu_at (l := l) (j := k) (by omega)
    have b := tu_at (l := l) (j := k + 1) hk
    generalize hm : l.length - 1 - (k + 1) = m at *
    rw [show l.length - 1 - k = m + 1 by omega] at a ih
    rw [fr_succ] at ih
    rw [fr_succ, a.1, a.2, b.1, b.2, sq3_turn]
    rw [show gX l (l.length - 1) - gX l m - (gX l (l.length - 1) - gX l (m + 1)) = gX l (m + 1) - gX l m by omega]
    omega
theorem frS_turn {l : List (Int × Int)} (h : RP l) : frS (tuL l) = frS l := by
  have n0 := h.n0
  have := fr_turn l (l.length - 1) (by omega)
  rw [Nat.sub_self] at this
  unfold frS
  rw [tuL_len]
  simp only [fr] at this
  omega
theorem cut_id {p q s u v : Int} (d0 : 0 < u + v) (h : s * (u + v) = p * v + q * u) : u * sq3 p s + v * sq3 s q = (u + v) * sq3 p q := by
  have k : (u * sq3 p s + v * sq3 s q) * ((u + v) * (u + v)) = ((u + v) * sq3 p q) * ((u + v) * (u + v)) := by
    have e1 : sq3 p s * ((u + v) * (u + v)) = p * p * ((u + v) * (u + v)) + p * (u + v) * (s * (u + v)) + s * (u + v) * (s * (u + v)) := by unfold sq3; grind
    have e2 : sq3 s q * ((u + v) * (u + v)) = q * q * ((u + v) * (u + v)) + q * (u + v) * (s * (u + v)) + s * (u + v) * (s * (u + v)) := by unfold sq3; grind
    rw [h] at e1 e2
    have a1 : (u * sq3 p s + v * sq3 s q) * ((u + v) * (u + v)) = u * (sq3 p s * ((u + v) * (u + v))) + v * (sq3 s q * ((u + v) * (u + v))) := by grind
    rw [a1, e1, e2]
    unfold sq3
    grind
  have dd : 0 < (u + v) * (u + v) := Int.mul_pos d0 d0
  exact Int.eq_of_mul_eq_mul_right (by omega) k
theorem fr_ins {l : List (Int × Int)} {i : Nat} {x r : Int} (h : InP l i x r) : (∀ j, j < i → fr (ins l i (x, r)) j = fr l j) ∧ ∀ j, i ≤ j → j < l.length → fr (ins l i (x, r)) (j + 1) = fr l j := by
  obtain ⟨R, n1, i1, i2, a, b, rr, lo, hi⟩ := h
  have il : i ≤ l.length := by omega
  have M := ins_mi (x, r) il
  have L := fun k => ins_lo (x, r) il (j := k)
  have U := fun k => ins_hi (x, r) il (j := k)
  have f1 : ∀ j, j < i → fr (ins l i (x, r)) j = fr l j := by
    intro j
    induction j with
    | zero => intro _; rfl
    | succ j ih =>
      intro hj
      unfold fr
      rw [ih (by omega), (L j (by omega)).1, (L j (by omega)).2, (L (j + 1) hj).1, (L (j + 1) hj).2]
  refine ⟨f1, fun j => ?_⟩
  induction j with
  | zero => omega
  | succ j ih =>
    intro h1 h2
    by_cases e : i = j + 1
    · subst e
      rw [Nat.add_sub_cancel] at a rr
      rw [show fr (ins l (j + 1) (x, r)) (j + 1 + 1) = fr (ins l (j + 1) (x, r)) j + (gX (ins l (j + 1) (x, r)) (j + 1) - gX (ins l (j + 1) (x, r)) j) * sq3 (gR (ins l (j + 1) (x, r)) j) (gR (ins l (j + 1) (x, r)) (j + 1)) + (gX (ins l (j + 1) (x, r)) (j + 1 + 1) - gX (ins l (j + 1) (x, r)) (j + 1)) * sq3 (gR (ins l (j + 1) (x, r)) (j + 1)) (gR (ins l (j + 1) (x, r)) (j + 1 + 1)) from rfl]
      rw [f1 j (by omega), M.1, M.2, (L j (by omega)).1, (L j (by omega)).2, (U (j + 1) (by omega)).1, (U (j + 1) (by omega)).2]
      show _ = fr l j + (gX l (j + 1) - gX l j) * sq3 (gR l j) (gR l (j + 1))
      have c := cut_id (p := gR l j) (q := gR l (j + 1)) (s := r) (u := x - gX l j) (v := gX l (j + 1) - x) (by omega) (by
        rw [show x - gX l j + (gX l (j + 1) - x) = gX l (j + 1) - gX l j by omega, rr]
        unfold lnN
        grind)
      rw [show x - gX l j + (gX l (j + 1) - x) = gX l (j + 1) - gX l j by omega] at c
      show fr l j + (x - gX l j) * sq3 (gR l j) r + (gX l (j + 1) - x) * sq3 r (gR l (j + 1)) = _
      omega
    · have ih := ih (by omega) (by omega)
      rw [show fr (ins l i (x, r)) (j + 1 + 1) = fr (ins l i (x, r)) (j + 1) + (gX (ins l i (x, r)) (j + 1 + 1) - gX (ins l i (x, r)) (j + 1)) * sq3 (gR (ins l i (x, r)) (j + 1)) (gR (ins l i (x, r)) (j + 1 + 1)) from rfl, ih, (U j (by omega)).1, (U j (by omega)).2, (U (j + 1) (by omega)).1, (U (j + 1) (by omega)).2]
      rfl
theorem frS_ins {l : List (Int × Int)} {i : Nat} {x r : Int} (h : InP l i x r) : frS (ins l i (x, r)) = frS l := by
  have f := (fr_ins h).2
  have i2 := h.i2
  have il : i ≤ l.length := by omega
  have hl := ins_len (x, r) il
  unfold frS
  rw [hl]
  have := f (l.length - 1) (by omega) (by omega)
  rwa [show l.length - 1 + 1 = l.length + 1 - 1 by omega] at this

/-- a profile whose radii are greater by m -/
def wid (l : List (Int × Int)) (m : Int) : List (Int × Int) := l.map fun q => (q.1, q.2 + m)
theorem wid_len (l : List (Int × Int)) (m : Int) : (wid l m).length = l.length := by unfold wid; rw [List.length_map]
theorem wid_at {l : List (Int × Int)} {m : Int} {j : Nat} (hj : j < l.length) : gX (wid l m) j = gX l j ∧ gR (wid l m) j = gR l j + m := by
  unfold gX gR wid
  simp only [List.getD_eq_getElem?_getD, List.getElem?_map, List.getElem?_eq_getElem hj, Option.map_some, Option.getD_some]
  exact ⟨trivial, trivial⟩
theorem fr_wid {l : List (Int × Int)} (h : RP l) {m : Int} (m1 : 1 ≤ m) (k : Nat) (hk : k < l.length) : fr l k ≤ fr (wid l m) k ∧ (1 ≤ k → fr l k < fr (wid l m) k) := by
  induction k with
  | zero => exact ⟨Int.le_refl _, fun h => by omega⟩
  | succ k ih =>
    have ih := (ih (by omega)).1
    have a := wid_at (l := l) (m := m) (j := k) (by omega)
    have b := wid_at (l := l) (m := m) hk
    have d := h.asc k hk
    have p0 := h.br k (by omega)
    have q0 := h.br (k + 1) hk
    have s := sq3_less (show 0 ≤ gR l k by omega) (show 0 ≤ gR l (k + 1) by omega) (show gR l k < gR l k + m by omega) (show gR l (k + 1) ≤ gR l (k + 1) + m by omega)
    have t := Int.mul_lt_mul_of_pos_left s (show 0 < gX l (k + 1) - gX l k by omega)
    have key : fr l (k + 1) < fr (wid l m) (k + 1) := by
      unfold fr
      rw [a.1, a.2, b.1, b.2]
      omega
    exact ⟨by omega, fun _ => key⟩
theorem frS_wid {l : List (Int × Int)} (h : RP l) {m : Int} (m1 : 1 ≤ m) : frS l < frS (wid l m) := by
  have n0 := h.n0
  unfold frS
  rw [wid_len]
  exact (fr_wid h m1 (l.length - 1) (by omega)).2 (by omega)

/-- the points up to k, and those from k on, counted from the k-th -/
def hdL (l : List (Int × Int)) (k : Nat) : List (Int × Int) := l.take (k + 1)
def tlL (l : List (Int × Int)) (k : Nat) : List (Int × Int) := (l.drop k).map fun q => (q.1 - gX l k, q.2)
theorem hd_len {l : List (Int × Int)} {k : Nat} (hk : k < l.length) : (hdL l k).length = k + 1 := by unfold hdL; rw [List.length_take]; omega
theorem tl_len (l : List (Int × Int)) (k : Nat) : (tlL l k).length = l.length - k := by unfold tlL; rw [List.length_map, List.length_drop]
theorem hd_at {l : List (Int × Int)} {k j : Nat} (hj : j ≤ k) : gX (hdL l k) j = gX l j ∧ gR (hdL l k) j = gR l j := by
  unfold gX gR hdL
  simp only [List.getD_eq_getElem?_getD, List.getElem?_take]
  rw [if_pos (by omega)]
  exact ⟨rfl, rfl⟩
theorem tl_at {l : List (Int × Int)} {k j : Nat} (hj : k + j < l.length) : gX (tlL l k) j = gX l (k + j) - gX l k ∧ gR (tlL l k) j = gR l (k + j) := by
  have e : (tlL l k).getD j (0, 0) = (gX l (k + j) - gX l k, gR l (k + j)) := by
    unfold tlL
    simp only [List.getD_eq_getElem?_getD, List.getElem?_map, List.getElem?_drop, List.getElem?_eq_getElem hj, Option.map_some, Option.getD_some]
    unfold gX gR
    simp only [List.getD_eq_getElem?_getD, List.getElem?_eq_getElem hj, Option.getD_some]
  unfold gX gR at *
  rw [e]
  exact ⟨rfl, rfl⟩
theorem hd_right {l : List (Int × Int)} (h : RP l) {k : Nat} (k1 : 1 ≤ k) (hk : k < l.length) : RP (hdL l k) := by
  have hl := hd_len hk
  have n1 := h.n1
  refine ⟨by omega, by omega, fun i hi => ?_, fun i hi => ?_, ?_, fun i hi => ?_, fun i j hij hj hf => ?_⟩
  · rw [(hd_at (l := l) (show i ≤ k by omega)).1]; exact h.bx i (by omega)
  · rw [(hd_at (l := l) (show i ≤ k by omega)).2]; exact h.br i (by omega)
  · rw [(hd_at (l := l) (show 0 ≤ k by omega)).1]; exact h.x0
  · rw [(hd_at (l := l) (show i ≤ k by omega)).1, (hd_at (l := l) (show i + 1 ≤ k by omega)).1]; exact h.asc i (by omega)
  · rw [(hd_at (l := l) (show i ≤ k by omega)).2, (hd_at (l := l) (show i + 1 ≤ k by omega)).2] at hf
    rw [(hd_at (l := l) (show j ≤ k by omega)).2, (hd_at (l := l) (show j + 1 ≤ k by omega)).2]
    exact h.ns i j hij (by omega) hf
theorem tl_right {l : List (Int × Int)} (h : RP l) {k : Nat} (hk : k + 1 < l.length) : RP (tlL l k) := by
  have hl := tl_len l k
  have n1 := h.n1
  refine ⟨by omega, by omega, fun i hi => ?_, fun i hi => ?_, ?_, fun i hi => ?_, fun i j hij hj hf => ?_⟩
  · rw [(tl_at (l := l) (show k + i < l.length by omega)).1]
    have a := h.bx (k + i) (by omega)
    have b := h.bx k (by omega)
    have c := gX_le h (i := k) (j := k + i) (by omega) (by omega)
    omega
  · rw [(tl_at (l := l) (show k + i < l.length by omega)).2]; exact h.br _ (by omega)
  · rw [(tl_at (l := l) (show k + 0 < l.length by omega)).1, Nat.add_zero]; omega
  · rw [(tl_at (l := l) (show k + i < l.length by omega)).1, (tl_at (l := l) (show k + (i + 1) < l.length by omega)).1]
    have := h.asc (k + i) (by omega)
    rw [← Nat.add_assoc]
    omega
  · rw [(tl_at (l := l) (show k + i < l.length by omega)).2, (tl_at (l := l) (show k + (i + 1) < l.length by omega)).2] at hf
    rw [(tl_at (l := l) (show k + j < l.length by omega)).2, (tl_at (l := l) (show k + (j + 1) < l.length by omega)).2]
    rw [← Nat.add_assoc] at *
    exact h.ns (k + i) (k + j) (by omega) (by omega) hf
theorem frS_parts {l : List (Int × Int)} {k : Nat} (hk : k < l.length) : frS (hdL l k) + frS (tlL l k) = frS l := by
  have a : ∀ j, j ≤ k → fr (hdL l k) j = fr l j := by
    intro j
    induction j with
    | zero => intro _; rfl
    | succ j ih =>
      intro hj
      unfold fr
      rw [ih (by omega), (hd_at (l := l) (show j ≤ k by omega)).1, (hd_at (l := l) (show j ≤ k by omega)).2, (hd_at (l := l) hj).1, (hd_at (l := l) hj).2]
  have b : ∀ j, k + j < l.length → fr (tlL l k) j + fr l k = fr l (k + j) := by
    intro j
    induction j with
    | zero => intro _; simp [fr]
    | succ j ih =>
      intro hj
      have ih := ih (by omega)
      rw [← Nat.add_assoc] at hj ⊢
      rw [fr_succ, fr_succ]
      have t1 := tl_at (l := l) (k := k) (j := j) (by omega)
      have t2 := tl_at (l := l) (k := k) (j := j + 1) (by omega)
      rw [← Nat.add_assoc] at t2
      rw [t1.1, t1.2, t2.1, t2.2]
      rw [show gX l (k + j + 1) - gX l k - (gX l (k + j) - gX l k) = gX l (k + j + 1) - gX l (k + j) by omega]
      omega
  have c := a k (Nat.le_refl _)
  have d := b (l.length - 1 - k) (by omega)
  rw [show k + (l.length - 1 - k) = l.length - 1 by omega] at d
  unfold frS
  rw [hd_len hk, tl_len, Nat.add_sub_cancel, show l.length - k - 1 = l.length - 1 - k by omega]
  omega
end Go.Proofs.Ytpnlfeljmpfeoab

/- Plain facts: least and greatest radii, cylinders. No program stands in this text. -/
namespace Go.Proofs.Ytpnlfeljmpfeoab

def mnR (l : List (Int × Int)) : Nat → Int
  | 0 => gR l 0
  | k + 1 => min (mnR l k) (gR l k)
def mxR (l : List (Int × Int)) : Nat → Int
  | 0 => gR l 0
  | k + 1 => max (mxR l k) (gR l k)
theorem mnR_le (l : List (Int × Int)) (k : Nat) : (∀ j, j < k → mnR l k ≤ gR l j ∧ gR l j ≤ mxR l k) ∧ mnR l k ≤ gR l 0 ∧ gR l 0 ≤ mxR l k := by
  induction k with
  | zero => exact ⟨fun j hj => by omega, Int.le_refl _, Int.le_refl _⟩
  | succ k ih =>
    obtain ⟨h1, h2, h3⟩ := ih
    unfold mnR mxR
    refine ⟨fun j hj => ?_, by omega, by omega⟩
    by_cases e : j = k
    · subst e; omega
    · have := h1 j (by omega); omega
theorem mnR_bd {l : List (Int × Int)} (h : RP l) (k : Nat) (hk : k ≤ l.length) : (1 ≤ mnR l k ∧ mnR l k ≤ 100000) ∧ 1 ≤ mxR l k ∧ mxR l k ≤ 100000 := by
  induction k with
  | zero =>
    have := h.br 0 (by have := h.n0; omega)
    exact ⟨this, this⟩
  | succ k ih =>
    have := ih (by omega)
    have := h.br k (by omega)
    unfold mnR mxR
    omega
/-- a cylinder -/
def cyl (X r : Int) : List (Int × Int) := [(0, r), (X, r)]
theorem cyl_right {X r : Int} (hX : 0 < X ∧ X ≤ 100000) (hr : 1 ≤ r ∧ r ≤ 100000) : RP (cyl X r) := by
  have c : ∀ i, i < 2 → i = 0 ∨ i = 1 := fun i h => by omega
  refine ⟨Nat.le_refl 2, by show 2 ≤ 32; omega, fun i hi => ?_, fun i hi => ?_, rfl, fun i hi => ?_, fun i j hij hj hf => ?_⟩
  · rcases c i hi with rfl | rfl
    · show 0 ≤ (0 : Int) ∧ (0 : Int) ≤ 100000; omega
    · show 0 ≤ X ∧ X ≤ 100000; omega
  · rcases c i hi with rfl | rfl <;> exact hr
  · obtain rfl : i = 0 := by have : i + 1 < 2 := hi; omega
    exact hX.1
  · obtain rfl : j = 0 := by have : j + 1 < 2 := hj; omega
    exact Int.le_refl _
theorem cyl_sum (X r : Int) : frS (cyl X r) = 3 * X * r * r := by
  show 0 + (X - 0) * sq3 r r = _
  unfold sq3; grind
theorem cyl_bd {X r : Int} (hX : 0 < X ∧ X ≤ 100000) (hr : 1 ≤ r ∧ r ≤ 100000) : (0 ≤ 3 * X ∧ 3 * X ≤ 300000) ∧ (0 ≤ 3 * X * r ∧ 3 * X * r ≤ 30000000000) ∧ 0 ≤ 3 * X * r * r ∧ 3 * X * r * r ≤ 3000000000000000 := by
  have a1 := Int.mul_nonneg (show 0 ≤ 3 * X by omega) (show 0 ≤ r by omega)
  have a2 := Int.mul_le_mul (show 3 * X ≤ 300000 by omega) hr.2 (by omega) (by omega)
  have b1 := Int.mul_nonneg a1 (show 0 ≤ r by omega)
  have b2 := Int.mul_le_mul (show 3 * X * r ≤ 30000000000 by omega) hr.2 (by omega) (by omega)
  omega
/-- a profile lies between its least and its greatest cylinder -/
theorem cyl_around {l : List (Int × Int)} (h : RP l) : 3 * gX l (l.length - 1) * mnR l l.length * mnR l l.length ≤ frS l ∧ frS l ≤ 3 * gX l (l.length - 1) * mxR l l.length * mxR l l.length := by
  have n0 := h.n0
  have m := (mnR_le l l.length).1
  have b := mnR_bd h l.length (Nat.le_refl _)
  have f := fr_between h (a := mnR l l.length) (b := mxR l l.length) (by omega) (fun j hj => (m j hj).1) (fun j hj => (m j hj).2) (l.length - 1) (by omega)
  have e : ∀ X r : Int, X * (3 * r * r) = 3 * X * r * r := fun X r => by grind
  rw [e, e] at f
  exact f
theorem last_pos {l : List (Int × Int)} (h : RP l) : 0 < gX l (l.length - 1) ∧ gX l (l.length - 1) ≤ 100000 := by
  have n0 := h.n0
  have a := gX_lt h (i := 0) (j := l.length - 1) (by omega) (by omega)
  have b := h.bx (l.length - 1) (by omega)
  have c := h.x0
  omega
end Go.Proofs.Ytpnlfeljmpfeoab

/- The statements about layer 10: the numbers of the chapter's examples. -/
namespace Go.Proofs.Ytpnlfeljmpfeoab
open Go.RowKit

def l0 : List (Int × Int) := [(0, 300), (500, 400), (1000, 300)]
def bar : Ck := ⟨⟨#[65, 45, 49]⟩, 1, l0, 500⟩
theorem cyl_ex : ckE (cyl 10 3) = 0 ∧ fuQ (cyl 10 3) = 270 ∧ spL (cyl 10 3) = 282 ∧ spH (cyl 10 3) = 283 := by decide +kernel
theorem bar_ex : ccE bar = 0 ∧ vlL bar = 387 ∧ vlH bar = 388 ∧ agE bar 10 = 0 ∧ agQ bar 10 = 2 ∧ agE bar 250 = 0 ∧ agQ bar 250 = 1 ∧ rmE bar 100 = 0 ∧ rmL bar 100 = 287 ∧ rmH bar 100 = 288 := by decide +kernel
theorem li_one {c : Ck} (h : ccE c = 0) : liE [c] = 0 := by
  have e : fE [c] = 0 := by unfold fE; rw [if_pos h]; rfl
  unfold liE
  rw [if_neg (by simp), if_pos e, if_neg]
  rintro ⟨i, k, hi, hk, _⟩
  simp at hi
  omega
theorem barrel_any (w : World) : Calls Try.prog 31 #[] w fun e w' => ∃ v, e = .returned v ∧ CkV w' v bar ∧ Below w.heap.size w w' := by
  have P : ∀ o, Pts ((w.alloc o).alloc (.cells #[.int .i64 0, .int .i64 300, .int .i64 500, .int .i64 400, .int .i64 1000, .int .i64 300] 30)) (.slice (some ⟨w.heap.size + 1, 0, none⟩) 3 3) l0 := fun o => by
    have := pts_lit (w.alloc o) l0 (flat l0) rfl (by decide)
    simp only [World.size_alloc] at this
    exact this
  go_enter Try.func31, Try.ntmps31
  go_wp2
  refine bodyPost_ret (v := .agg #[.string ⟨#[65, 45, 49]⟩, .int .i64 1, .slice (some ⟨w.heap.size + 1, 0, none⟩) 3 3, .int .i64 500]) (by simp [results, Try.results31, go_sem]) rfl ?_
  exact ⟨_, rfl, ⟨_, 3, rfl, P _, by decide, by decide, by decide⟩, bel_alloc (bel_alloc (Below.refl _ _))⟩
/-- a list of one cask, laid now -/
theorem cks_now {W : World} {a : Option Addr} {cap : Nat} {c : Ck} (h : CkV W (.agg #[.string c.nm, .int .i64 c.ps, .slice a c.pf.length cap, .int .i64 c.dc]) c) : Cks (W.alloc (.cells #[.string c.nm, .int .i64 c.ps, .slice a c.pf.length cap, .int .i64 c.dc] 36)) (.slice (some ⟨W.heap.size, 0, none⟩) 1 1) [c] := by
  have h' := h.alloc (.cells #[.string c.nm, .int .i64 c.ps, .slice a c.pf.length cap, .int .i64 c.dc] 36)
  refine ⟨_, 1, rfl, by simp, .inr ⟨W.heap.size, 0, rfl, by simp, fun j hj => ?_⟩⟩
  obtain rfl : j = 0 := by simpa using hj
  exact ⟨_, _, _, _, by simp [go_sem], by simp [go_sem], by simp [go_sem], by simp [go_sem], h'⟩
end Go.Proofs.Ytpnlfeljmpfeoab

/- The reference of layer 9: Copy. -/
namespace Go.Proofs.Ytpnlfeljmpfeoab
open Go.RowKit

theorem ck_info : (Try.prog.info? 36).map (fun i => (i.zero, i.size, i.bytes)) = some (some (.agg #[.string ByteArray.empty, .int .i64 0, .slice none 0 0, .int .i64 0]), 4, 56) := by kernel_rfl
/-- the cells of a cask -/
def ckCells (c : Ck) (pv : Value) : List Value := [.string c.nm, .int .i64 c.ps, pv, .int .i64 c.dc]
def flatC : List (Ck × Value) → List Value
  | [] => []
  | q :: l => ckCells q.1 q.2 ++ flatC l
theorem flatC_len (l : List (Ck × Value)) : (flatC l).length = l.length * 4 := by
  induction l with
  | nil => rfl
  | cons q l ih => simp only [flatC, ckCells, List.length_append, List.length_cons, List.length_nil, ih]; omega
theorem flatC_app (l m : List (Ck × Value)) : flatC (l ++ m) = flatC l ++ flatC m := by
  induction l with
  | nil => rfl
  | cons q l ih => simp only [List.cons_append, flatC, ih, List.append_assoc]
theorem flatC_at (l : List (Ck × Value)) (j : Nat) (h : j < l.length) : (flatC l)[j * 4]? = some (.string l[j].1.nm) ∧ (flatC l)[j * 4 + 1]? = some (.int .i64 l[j].1.ps) ∧ (flatC l)[j * 4 + 2]? = some l[j].2 ∧ (flatC l)[j * 4 + 3]? = some (.int .i64 l[j].1.dc) := by
  induction l generalizing j with
  | nil => simp at h
  | cons q l ih =>
    cases j with
    | zero => simp [flatC, ckCells]
    | succ j =>
      have := ih j (by simpa using h)
      rw [show (j + 1) * 4 = j * 4 + 1 + 1 + 1 + 1 by omega]
      simp only [flatC, ckCells, List.cons_append, List.nil_append, List.getElem?_cons_succ, List.getElem_cons_succ]
      exact this
theorem own_apart {w : World} {B B' n m size size' : Nat} {e e' : TypeId} {p v : Value} {xs ys : List Value} (he : e ≠ e') (h : w.ownsRow B e size p n xs) (h' : w.ownsRow B' e' size' v m ys) : p.ownBlock = none ∨ p.ownBlock ≠ v.ownBlock := by
  rcases h.2 with ⟨rfl, _⟩ | ⟨g, c, cur, rfl, _, hg, _⟩
  · exact .inl rfl
  · rcases h'.2 with ⟨rfl, _⟩ | ⟨g', c', cur', rfl, _, hg', _⟩
    · right; simp [Value.ownBlock]
    · right
      simp only [Value.ownBlock, ne_eq, Option.some.injEq]
      intro hgg
      rw [hgg, hg'] at hg
      simp only [Option.some.injEq, Obj.cells.injEq] at hg
      exact he hg.2.1.symm
/-- casks of the call's own: the row, and a list of points of one's own for each -/
def OwnC (w : World) (B : Nat) (v : Value) (l : List Ck) : Prop :=
  ∃ ps : List Value, ps.length = l.length ∧ w.ownsRow B 36 4 v l.length (flatC (l.zip ps)) ∧ ∀ q ∈ l.zip ps, OwnP w B q.2 q.1.pf
theorem own_one {w : World} {B n size : Nat} {e : TypeId} {v : Value} {xs : List Value} (h : w.ownsRow B e size v n xs) (B' : Nat) (hB : B' ≤ B) : w.ownsRow B' e size v n xs := by
  obtain ⟨h1, h2⟩ := h
  refine ⟨h1, ?_⟩
  rcases h2 with h2 | ⟨g, c, cur, hv, hg, r⟩
  · exact .inl h2
  · exact .inr ⟨g, c, cur, hv, Nat.le_trans hB hg, r⟩
/-- one more cask -/
theorem OwnC.snoc {W W' : World} {B : Nat} {v v' : Value} {l : List Ck} {c : Ck} {p : Value} {ps : List Value} (h1 : ps.length = l.length) (h2 : W.ownsRow B 36 4 v l.length (flatC (l.zip ps))) (h3 : ∀ q ∈ l.zip ps, OwnP W B q.2 q.1.pf) (hg : W.grownBy W' v.ownBlock) (hp : OwnP W B p c.pf)
    (h4 : W'.ownsRow B 36 4 v' (l.length + 1) (flatC (l.zip ps) ++ ckCells c p)) : OwnC W' B v' (l ++ [c]) := by
  have hz : (l ++ [c]).zip (ps ++ [p]) = l.zip ps ++ [(c, p)] := by
    rw [List.zip_append h1.symm]; rfl
  refine ⟨ps ++ [p], by simp [h1], ?_, ?_⟩
  · rw [hz, flatC_app, List.length_append]
    exact h4
  · rw [hz]
    intro q hq
    have k : OwnP W B q.2 q.1.pf := by
      rcases List.mem_append.1 hq with hq | hq
      · exact h3 q hq
      · rw [List.mem_singleton] at hq; subst hq; exact hp
    exact World.ownsRow.kept k hg (own_apart (by decide) k h2)
theorem row_bel {W W' : World} {B n size : Nat} {e : TypeId} {v : Value} {xs : List Value} (h : W.ownsRow B e size v n xs) (hb : Below W.heap.size W W') : W'.ownsRow B e size v n xs := by
  obtain ⟨h1, h2⟩ := h
  refine ⟨h1, ?_⟩
  rcases h2 with h2 | ⟨g, c, cur, hv, hg, hh, r⟩
  · exact .inl h2
  · refine .inr ⟨g, c, cur, hv, hg, ?_, r⟩
    rw [hb.block g (Array.getElem?_eq_some_iff.1 hh).1]; exact hh
theorem OwnC.below {W W' : World} {B : Nat} {v : Value} {l : List Ck} (h : OwnC W B v l) (hb : Below W.heap.size W W') : OwnC W' B v l := by
  obtain ⟨ps, h1, h2, h3⟩ := h
  exact ⟨ps, h1, row_bel h2 hb, fun q hq => row_bel (h3 q hq) hb⟩
theorem Quad.grown {b : Nat} {W W' : World} {row : Option Nat} {x y z u : Value} (h : Quad b W x y z u) (hg : W.grownBy W' row) (hr : some b ≠ row) : Quad b W' x y z u := by
  obtain ⟨h0, h1, h2, h3, h4, h5⟩ := h
  have e := hg.block b h5 hr
  have f : ∀ k, W'.cell? ⟨b, k, none⟩ = W.cell? ⟨b, k, none⟩ := fun k => World.cell?_of_block (a := ⟨b, k, none⟩) e
  exact ⟨by rw [f]; exact h0, by rw [f]; exact h1, by rw [f]; exact h2, by rw [f]; exact h3, fun k hk => by rw [World.frozen?_of_block (a := ⟨b, k, none⟩) e]; exact h4 k hk, Nat.lt_of_lt_of_le h5 hg.size⟩
theorem Quad.set2 {b : Nat} {W : World} {x y z u : Value} (h : Quad b W x y z u) (t : Value) : Quad b (W.setCell ⟨b, 2, none⟩ t) x y t u := by
  obtain ⟨h0, h1, h2, h3, h4, h5⟩ := h
  refine ⟨?_, ?_, ?_, ?_, fun k hk => ?_, ?_⟩
  · rw [World.cell?_setCell_other _ _ _ _ (by simp)]; exact h0
  · rw [World.cell?_setCell_other _ _ _ _ (by simp)]; exact h1
  · exact World.cell?_setCell_same _ _ _ h2
  · rw [World.cell?_setCell_other _ _ _ _ (by simp)]; exact h3
  · rw [World.frozen?_setCell]; exact h4 k hk
  · simpa [World.setCell] using h5
theorem grown_set (W : World) (b i : Nat) (v : Value) : W.grownBy (W.setCell ⟨b, i, none⟩ v) (some b) :=
  ⟨rfl, rfl, rfl, by simp [World.setCell], fun k _ hne => Below.heap_setCell _ _ _ _ (by intro e; exact hne (by rw [e]))⟩
theorem OwnC.cks {W : World} {B : Nat} {v : Value} {l : List Ck} (h : OwnC W B v l) (hn : ∀ c ∈ l, c.nm.size ≤ 9223372036854775807 ∧ (-9223372036854775808 ≤ c.ps ∧ c.ps ≤ 9223372036854775807) ∧ (-9223372036854775808 ≤ c.dc ∧ c.dc ≤ 9223372036854775807)) : Cks W v l := by
  obtain ⟨ps, h1, h2, h3⟩ := h
  have h2' := h2
  obtain ⟨_, h4⟩ := h2
  rcases h4 with ⟨rfl, h0⟩ | ⟨g, cap, cur, rfl, hg, hh, hc, hm, _⟩
  · exact ⟨none, 0, by rw [h0], by omega, .inl h0⟩
  · have hlt : g < W.heap.size := (Array.getElem?_eq_some_iff.1 hh).1
    unfold maxLen at hm
    refine ⟨_, cap, rfl, ⟨hc, by omega⟩, .inr ⟨g, 0, rfl, hlt, fun j hj => ?_⟩⟩
    have hcell := World.ownsRow.cells h2' (g := g) rfl
    have hjz : j < (l.zip ps).length := by simp; omega
    have hf := flatC_at (l.zip ps) j hjz
    have hz : (l.zip ps)[j] = (l[j], ps[j]'(by omega)) := by simp
    rw [hz] at hf
    obtain ⟨f0, f1, f2, f3⟩ := hf
    have c0 := hcell _ _ f0
    have c1 := hcell _ _ f1
    have c2 := hcell _ _ f2
    have c3 := hcell _ _ f3
    rw [Go.WideShapes.add_plain] at c0 c1 c2 c3
    have hp := OwnP.pts (h3 (l[j], ps[j]'(by omega)) (by rw [← hz]; exact List.getElem_mem _))
    obtain ⟨a, cp, e, _, _⟩ := hp.shape
    simp only at e hp
    rw [e] at hp c2
    exact ⟨_, _, _, _, c0, by rw [Nat.add_assoc]; exact c1, by rw [Nat.add_assoc]; exact c2, by rw [Nat.add_assoc]; exact c3, a, cp, rfl, hp, hn _ (List.getElem_mem _)⟩
theorem own_far {w : World} {B n size b i : Nat} {e : TypeId} {v z : Value} {xs : List Value} (h : w.ownsRow B e size v n xs) (hb : b < B) : (w.setCell ⟨b, i, none⟩ z).ownsRow B e size v n xs :=
  World.ownsRow.kept h (grown_set w b i z) (by
    by_cases q : v.ownBlock = some b
    · have := (h.lt b q).1; omega
    · exact .inr q)
theorem OwnC.one {W : World} {B : Nat} {u : Value} {c : Ck} (h : OwnC W B u [c]) : ∃ g cap a cp, u = .slice (some ⟨g, 0, none⟩) 1 cap ∧ B ≤ g ∧ W.cell? ⟨g, 0, none⟩ = some (.string c.nm) ∧ W.cell? ⟨g, 1, none⟩ = some (.int .i64 c.ps) ∧ W.cell? ⟨g, 2, none⟩ = some (.slice a c.pf.length cp) ∧ W.cell? ⟨g, 3, none⟩ = some (.int .i64 c.dc) ∧ OwnP W B (.slice a c.pf.length cp) c.pf := by
  obtain ⟨ps, h1, h2, h3⟩ := h
  obtain ⟨p, rfl⟩ : ∃ p, ps = [p] := by
    rcases ps with _ | ⟨p, _ | ⟨q, ps⟩⟩ <;> simp at h1
    exact ⟨p, rfl⟩
  have hP : OwnP W B p c.pf := h3 (c, p) (by simp)
  obtain ⟨a, cp, rfl, _, _⟩ := hP.pts.shape
  have h2' := h2
  obtain ⟨_, h4⟩ := h2
  rcases h4 with ⟨_, h0⟩ | ⟨g, cap, cur, rfl, hg, _⟩
  · simp at h0
  · have hcell := World.ownsRow.cells h2' (g := g) rfl
    have c0 := hcell 0 (.string c.nm) (by simp [flatC, ckCells])
    have c1 := hcell 1 (.int .i64 c.ps) (by simp [flatC, ckCells])
    have c2 := hcell 2 (.slice a c.pf.length cp) (by simp [flatC, ckCells])
    have c3 := hcell 3 (.int .i64 c.dc) (by simp [flatC, ckCells])
    rw [Go.WideShapes.add_plain] at c0 c1 c2 c3
    exact ⟨g, cap, a, cp, rfl, hg, c0, c1, c2, c3, hP⟩
end Go.Proofs.Ytpnlfeljmpfeoab

/- The reference of layer 9: Copy, walked. -/
namespace Go.Proofs.Ytpnlfeljmpfeoab
open Go.RowKit

theorem wpList_append_run {P : Program} {w : World} {ops : Array Oper} {rest : List Oper} {o : Oper} {a : Act} {Q : Exit → Act → World → Prop} (hgd : o.guard = none) (s x : Operand) (t : TypeId)
    (ho : o.op = .call { callee := .builtin .append, args := #[s, x], argTypes := #[t, t] }) (v x' v' : Value) (w' : World) (hs : a.eval s = v) (hx : a.eval x = x')
    (hr : (Builtin.append_ #[t, t] o.type #[v, x']).run P w = .ok v' w') (h : wpList P ops Q rest (a.put o.dst v') w') : wpList P ops Q (o :: rest) a w := by
  refine wpList_plain hgd fun K hK => ?_
  unfold Oper.wp execOp
  simp only [ho, resolve, invoke, builtin, Sem.run_bind, Sem.run_pure, Result.andThen_ok, List.map_toArray, List.map_cons, List.map_nil, hs, hx, hr]
  exact hK _ _ h
theorem ckCells_one (c : Ck) (p : Value) (hp : p.oneCell' = true) : ∀ u ∈ ckCells c p, u.oneCell' = true := by
  intro u hu
  simp only [ckCells, List.mem_cons, List.not_mem_nil, or_false] at hu
  rcases hu with rfl | rfl | rfl | rfl <;> first | rfl | exact hp
theorem own_oneCell {W : World} {B n size : Nat} {e : TypeId} {v : Value} {xs : List Value} (h : W.ownsRow B e size v n xs) : v.oneCell' = true := by
  rcases h.2 with ⟨rfl, _⟩ | ⟨g, c, cur, rfl, _⟩ <;> rfl
/-- a block of four cells that was laid, as what is appended -/
theorem quad_news (w : World) (x y z u : Value) (t : TypeId) : ∀ j v, [x, y, z, u][j]? = some v → (w.alloc (.cells #[x, y, z, u] t)).cell? ((⟨w.heap.size, 0, none⟩ : Addr).add j) = some v := by
  intro j v hj
  have hlt : j < 4 := by have := (List.getElem?_eq_some_iff.1 hj).1; simpa using this
  rw [Go.WideShapes.add_plain, World.cell?_alloc_new]
  simpa using hj
set_option maxHeartbeats 16000000 in
set_option maxRecDepth 100000 in
theorem refCopy_some (b off n cap : Nat) (l : List Ck) (w : World) (n1 : n ≤ 1000) (hn : Hid (n = l.length)) (hb : b < w.heap.size) (hp : Hid (∀ c ∈ l, c.pf.length ≤ 1000))
    (hc : Hid (∀ j (hj : j < l.length), CkAt w b off j l[j])) :
    Calls Try.prog 19 #[.slice (some ⟨b, off, none⟩) n cap] w fun e w' => ∃ u, e = .returned u ∧ OwnC w' w.heap.size u l ∧ Below w.heap.size w w' := by
  obtain ⟨i0, hi0, hz0, hz1, hz2⟩ := info_parts pt_info
  obtain ⟨j0, hj0, gz0, gz1, gz2⟩ := info_parts ck_info
  have hi0 := Lib.hid hi0
  have hz0 := Lib.hid hz0
  have hz1 := Lib.hid hz1
  have hz2 := Lib.hid hz2
  have hj0 := Lib.hid hj0
  have gz0 := Lib.hid gz0
  have gz1 := Lib.hid gz1
  have gz2 := Lib.hid gz2
  go_enter Try.func19, Try.ntmps19
  go_wp2_with fail
  go_loopw [3, 4] (fun out ii wr => ∃ k : Nat, k ≤ n ∧ ii = .int .i64 k ∧ Hid (OwnC wr w.heap.size out (l.take k)) ∧ Hid (Below w.heap.size w wr)) (fun _ ii _ => n - (intOf ii).toNat)
  case atStart => exact ⟨0, by omega, rfl, ⟨[], rfl, World.ownsRow_nil _ _ _ _, fun q hq => by simp at hq⟩, Below.refl _ _⟩
  case round =>
    obtain ⟨k, hk, rfl, hO, hB⟩ := hrel
    by_cases hlt : k < n
    · have hkl : k < l.length := by rw [← hn.out]; exact hlt
      obtain ⟨a, cp, c0, c1, c2, c3, hP, _⟩ := (hc.out k hkl).below hb hB.out
      have hP := Lib.hid hP
      have hs := hp.out _ (List.getElem_mem hkl)
      have eT : l.take (k + 1) = l.take k ++ [l[k]] := by rw [List.take_succ_eq_append_getElem hkl]
      have eT := Lib.hid eT
      have hT : (l.take k).length = k := by simp; omega
      have hT := Lib.hid hT
      have l1 : (k : Int) < (n : Int) := by omega
      generalize hcc : l[k] = c at *
      have HB0 := hB.out
      have HS := Lib.hid HB0.size
      cases a with
      | none =>
        have hL : c.pf = [] := by
          obtain ⟨a', cp', e, _, hh⟩ := hP.out
          rcases hh with hh | ⟨pb, poff, e2, _⟩
          · exact List.length_eq_zero_iff.1 hh
          · simp only [Value.slice.injEq] at e
            rw [e2] at e; cases e.1
        have hL0 : c.pf.length = 0 := by rw [hL]; rfl
        rw [hL0] at c2
        have AN : ∀ W : World, (Builtin.append_ #[22, 22] 22 #[.slice (some ⟨wr.heap.size + 1, 0, none⟩) 0 0, .slice none 0 cp]).run Try.prog W = .ok (.slice (some ⟨wr.heap.size + 1, 0, none⟩) 0 0) W := fun W => run_append_nothing W _ _ _ 30 i0 Try.underlying22 hi0.out _ 0 0 (Nat.le_refl _) _ (Src.ofNil W Try.underlying22 cp)
        have oc : (Value.slice (some ⟨wr.heap.size + 1, 0, none⟩) 0 0).oneCell' = true := rfl
        clear hP
        generalize hnm : c.nm = nm at *
        generalize hps : c.ps = ps at *
        generalize hdc : c.dc = dc at *
        have OP2 : Hid (OwnP ((wr.alloc (.cells #[.string nm, .int .i64 ps, .slice (some ⟨wr.heap.size + 1, 0, none⟩) 0 0, .int .i64 dc] 36)).alloc (.cells #[] 30)) w.heap.size (.slice (some ⟨wr.heap.size + 1, 0, none⟩) 0 0) c.pf) := by
          have := World.ownsRow_made (e := 30) (size := 2) (base := w.heap.size) (wr.alloc (.cells #[.string nm, .int .i64 ps, .slice (some ⟨wr.heap.size + 1, 0, none⟩) 0 0, .int .i64 dc] 36)) #[] 0 (by have := HB0.size; simp; omega) (Nat.zero_le _) (by simp)
          simp only [World.size_alloc] at this
          exact Lib.hid (by unfold OwnP; rw [hL]; exact this)
        have X2 : Hid (Below wr.heap.size wr ((wr.alloc (.cells #[.string nm, .int .i64 ps, .slice (some ⟨wr.heap.size + 1, 0, none⟩) 0 0, .int .i64 dc] 36)).alloc (.cells #[] 30))) := Lib.hid (bel_alloc (bel_alloc (Below.refl _ _)))
        clear HB0
        have FN : Hid (∀ j u, (ckCells c (.slice (some ⟨wr.heap.size + 1, 0, none⟩) 0 0))[j]? = some u → (((wr.alloc (.cells #[.string nm, .int .i64 ps, .slice (some ⟨wr.heap.size + 1, 0, none⟩) 0 0, .int .i64 dc] 36)).alloc (.cells #[] 30)).alloc (.cells #[.string nm, .int .i64 ps, (.slice (some ⟨wr.heap.size + 1, 0, none⟩) 0 0), .int .i64 dc] 36)).cell? ((⟨wr.heap.size + 1 + 1, 0, none⟩ : Addr).add j) = some u) := by
          have := quad_news ((wr.alloc (.cells #[.string nm, .int .i64 ps, .slice (some ⟨wr.heap.size + 1, 0, none⟩) 0 0, .int .i64 dc] 36)).alloc (.cells #[] 30)) (.string nm) (.int .i64 ps) (.slice (some ⟨wr.heap.size + 1, 0, none⟩) 0 0) (.int .i64 dc) 36
          have e : ((wr.alloc (.cells #[.string nm, .int .i64 ps, .slice (some ⟨wr.heap.size + 1, 0, none⟩) 0 0, .int .i64 dc] 36)).alloc (.cells #[] 30)).heap.size = wr.heap.size + 1 + 1 := by simp [World.setCell]
          rw [e] at this
          exact Lib.hid (by rw [← hnm, ← hps, ← hdc] at *; exact this)
        have X3 := X2.out.alloc X2.out.size (.cells #[.string nm, .int .i64 ps, (.slice (some ⟨wr.heap.size + 1, 0, none⟩) 0 0), .int .i64 dc] 36)
        obtain ⟨qs, o1, o2, o3⟩ := hO.out.below X3
        rw [hT.out] at o2
        have OP3 := row_bel OP2.out (bel_alloc (o := .cells #[.string nm, .int .i64 ps, (.slice (some ⟨wr.heap.size + 1, 0, none⟩) 0 0), .int .i64 dc] 36) (Below.refl _ _))
        have BS : Hid (w.heap.size ≤ (((wr.alloc (.cells #[.string nm, .int .i64 ps, .slice (some ⟨wr.heap.size + 1, 0, none⟩) 0 0, .int .i64 dc] 36)).alloc (.cells #[] 30)).alloc (.cells #[.string nm, .int .i64 ps, (.slice (some ⟨wr.heap.size + 1, 0, none⟩) 0 0), .int .i64 dc] 36)).heap.size) := Lib.hid (Nat.le_trans HS.out X3.size)
        have O1 := Lib.hid o1
        have O2 := Lib.hid o2
        have O3 := Lib.hid o3
        have Y3 := Lib.hid X3
        have P3 := Lib.hid OP3
        have OC := Lib.hid oc
        clear o1 o2 o3 X3 OP3 oc X2 OP2
        go_wp2_with (at_builtin; first | (refine wpList_append_run rfl _ _ 22 rfl _ _ _ _ rfl rfl (AN _) ?_) | (refine wpList_append_own_at _ rfl _ _ 38 rfl w.heap.size 36 j0 (.agg #[.string ByteArray.empty, .int .i64 0, .slice none 0 0, .int .i64 0]) 4 56 Try.underlying38 hj0.out gz0.out gz1.out gz2.out rfl (by omega) _ _ _ rfl O2.out ⟨wr.heap.size + 1 + 1, 0, none⟩ 1 1 (ckCells c (.slice (some ⟨wr.heap.size + 1, 0, none⟩) 0 0)) rfl rfl FN.out (ckCells_one c (.slice (some ⟨wr.heap.size + 1, 0, none⟩) 0 0) OC.out) ?qd4 ?qd5 BS.out ?_))
        case qd4 => unfold maxLen; omega
        case qd5 => omega
        intro v2 w2 hown hgrow _ hat
        have SN := Lib.hid (OwnC.snoc (c := c) O1.out (by rw [hT.out]; exact O2.out) O3.out hgrow P3.out (by rw [hT.out]; exact hown))
        rw [← eT.out] at SN
        have B2 := Lib.hid ((bel_trans hB.out Y3.out).grown hgrow BS.out (fun q hq => (World.ownsRow.lt O2.out q hq).1))
        clear hown hgrow hat O1 O2 O3 P3 FN
        go_wp2
        go_roundw
        case rel => exact ⟨k + 1, by omega, by go_num, SN, B2⟩
        case measure => simp [intOf]; omega
      | some ad =>
        have NW : Hid (∀ W, Below wr.heap.size wr W → ∀ j u, (flat c.pf)[j]? = some u → W.cell? (ad.add j) = some u) := fun W hW j u hj => by
          have hq := hP.out.below hW
          obtain ⟨a', cp', e, _, hh⟩ := hq
          simp only [Value.slice.injEq] at e
          obtain ⟨rfl, _, rfl⟩ := e
          rcases hh with hh | ⟨pb, poff, e, _, hcl⟩
          · obtain h0 := List.length_eq_zero_iff.1 hh
            rw [h0] at hj; simp [flat] at hj
          · obtain rfl := Option.some.inj e
            obtain ⟨i, hi, ⟨rfl, rfl⟩ | ⟨rfl, rfl⟩⟩ := flat_inv c.pf j u hj
            · rw [Go.WideShapes.add_plain]; exact (hcl i hi).1
            · rw [Go.WideShapes.add_plain, ← Nat.add_assoc]; exact (hcl i hi).2
        have OM : Hid (((wr.alloc (.cells #[.string c.nm, .int .i64 c.ps, .slice (some ad) c.pf.length cp, .int .i64 c.dc] 36)).alloc (.cells #[] 30)).ownsRow w.heap.size 30 2 (.slice (some ⟨wr.heap.size + 1, 0, none⟩) 0 0) 0 []) := by
          have := World.ownsRow_made (e := 30) (size := 2) (base := w.heap.size) (wr.alloc (.cells #[.string c.nm, .int .i64 c.ps, .slice (some ad) c.pf.length cp, .int .i64 c.dc] 36)) #[] 0 (by have := HB0.size; simp; omega) (Nat.zero_le _) (by simp)
          exact Lib.hid (by simpa using this)
        have F0 := Lib.hid ((Quad.new wr (.string c.nm) (.int .i64 c.ps) (.slice (some ad) c.pf.length cp) (.int .i64 c.dc) 36).alloc (.cells #[] 30))
        have fl := Lib.hid (flat_len c.pf)
        have fo := Lib.hid (flat_one c.pf)
        clear HB0 hP
        generalize hL : c.pf.length = L at *
        generalize hnm : c.nm = nm at *
        generalize hps : c.ps = ps at *
        generalize hdc : c.dc = dc at *
        go_wp2_with (at_builtin; refine wpList_append_own_at _ rfl _ _ 22 rfl w.heap.size 30 i0 (.agg #[.int .i64 0, .int .i64 0]) 2 16 Try.underlying22 hi0.out hz0.out hz1.out hz2.out rfl (by omega) _ _ _ rfl OM.out ad L cp (flat c.pf) rfl ?qc1 ?qc2 ?qc3 ?qc4 ?qc5 ?qc6 ?_)
        case qc1 => exact fl.out
        case qc2 => exact NW.out _ (bel_alloc (bel_alloc (Below.refl _ _)))
        case qc3 => exact fo.out
        case qc4 => rw [Nat.zero_add]; unfold maxLen; omega
        case qc5 => rw [Nat.zero_add]; omega
        case qc6 => have := HS.out; simp; omega
        intro v0 w1 hown hgrow hnil hat
        obtain ⟨g', cap', hv0⟩ : ∃ g' cap', v0 = .slice (some ⟨g', 0, none⟩) L cap' := by
          rcases hown.2 with ⟨h0, _⟩ | ⟨g', cap', _, h0, _⟩
          · exact absurd h0 (by simpa using hnil)
          · exact ⟨g', cap', by simpa using h0⟩
        subst hv0
        clear hnil
        have hvb : (Value.slice (some ⟨g', 0, none⟩) L cap').ownBlock ≠ some wr.heap.size := by
          rcases hat with hat | hat
          · rw [hat]; simp [Value.ownBlock]
          · rw [hat]; simp; omega
        have F1 := Lib.hid (F0.out.grown hgrow (by simp [Value.ownBlock]))
        have X1 := Lib.hid ((bel_alloc (bel_alloc (Below.refl _ _)) : Below wr.heap.size wr _).grown hgrow (by simp; omega) (by intro q hq; simp [Value.ownBlock] at hq; omega))
        have OP : Hid (OwnP w1 w.heap.size (.slice (some ⟨g', 0, none⟩) L cap') c.pf) := Lib.hid (by unfold OwnP; rw [hL]; simpa using hown)
        have oc := own_oneCell hown
        clear hown hgrow hat F0 OM NW fl fo
        obtain ⟨f0, f1, f2, f3, f4, f5⟩ := F1.out
        have f42 := f4 2 (by omega)
        obtain ⟨g0, g1, g2, g3, _, _⟩ := F1.out.set2 (.slice (some ⟨g', 0, none⟩) L cap')
        have OP2 : Hid (OwnP (w1.setCell ⟨wr.heap.size, 2, none⟩ (.slice (some ⟨g', 0, none⟩) L cap')) w.heap.size (.slice (some ⟨g', 0, none⟩) L cap') c.pf) := Lib.hid (World.ownsRow.kept OP.out (grown_set w1 wr.heap.size 2 (.slice (some ⟨g', 0, none⟩) L cap')) (.inr hvb))
        have X2 := Lib.hid (X1.out.setCell (p := ⟨wr.heap.size, 2, none⟩) (Nat.le_refl _) (.slice (some ⟨g', 0, none⟩) L cap'))
        clear f4
        have FN : Hid (∀ j u, (ckCells c (.slice (some ⟨g', 0, none⟩) L cap'))[j]? = some u → ((w1.setCell ⟨wr.heap.size, 2, none⟩ (.slice (some ⟨g', 0, none⟩) L cap')).alloc (.cells #[.string nm, .int .i64 ps, (.slice (some ⟨g', 0, none⟩) L cap'), .int .i64 dc] 36)).cell? ((⟨w1.heap.size, 0, none⟩ : Addr).add j) = some u) := by
          have := quad_news (w1.setCell ⟨wr.heap.size, 2, none⟩ (.slice (some ⟨g', 0, none⟩) L cap')) (.string nm) (.int .i64 ps) (.slice (some ⟨g', 0, none⟩) L cap') (.int .i64 dc) 36
          have e : (w1.setCell ⟨wr.heap.size, 2, none⟩ (.slice (some ⟨g', 0, none⟩) L cap')).heap.size = w1.heap.size := by simp [World.setCell]
          rw [e] at this
          exact Lib.hid (by rw [← hnm, ← hps, ← hdc] at *; exact this)
        have X3 := X2.out.alloc X2.out.size (.cells #[.string nm, .int .i64 ps, (.slice (some ⟨g', 0, none⟩) L cap'), .int .i64 dc] 36)
        obtain ⟨qs, o1, o2, o3⟩ := hO.out.below X3
        rw [hT.out] at o2
        have OP3 := row_bel OP2.out (bel_alloc (o := .cells #[.string nm, .int .i64 ps, (.slice (some ⟨g', 0, none⟩) L cap'), .int .i64 dc] 36) (Below.refl _ _))
        have BS : Hid (w.heap.size ≤ ((w1.setCell ⟨wr.heap.size, 2, none⟩ (.slice (some ⟨g', 0, none⟩) L cap')).alloc (.cells #[.string nm, .int .i64 ps, (.slice (some ⟨g', 0, none⟩) L cap'), .int .i64 dc] 36)).heap.size) := Lib.hid (Nat.le_trans HS.out X3.size)
        have O1 := Lib.hid o1
        have O2 := Lib.hid o2
        have O3 := Lib.hid o3
        have Y3 := Lib.hid X3
        have P3 := Lib.hid OP3
        have OC := Lib.hid oc
        clear o1 o2 o3 X3 OP3 oc X1 X2 OP OP2 F1
        go_wp2_with (at_builtin; refine wpList_append_own_at _ rfl _ _ 38 rfl w.heap.size 36 j0 (.agg #[.string ByteArray.empty, .int .i64 0, .slice none 0 0, .int .i64 0]) 4 56 Try.underlying38 hj0.out gz0.out gz1.out gz2.out rfl (by omega) _ _ _ rfl O2.out ⟨w1.heap.size, 0, none⟩ 1 1 (ckCells c (.slice (some ⟨g', 0, none⟩) L cap')) rfl rfl FN.out (ckCells_one c (.slice (some ⟨g', 0, none⟩) L cap') OC.out) ?qd4 ?qd5 BS.out ?_)
        case qd4 => unfold maxLen; omega
        case qd5 => omega
        intro v2 w2 hown hgrow _ hat
        have SN := Lib.hid (OwnC.snoc (c := c) O1.out (by rw [hT.out]; exact O2.out) O3.out hgrow P3.out (by rw [hT.out]; exact hown))
        rw [← eT.out] at SN
        have B2 := Lib.hid ((bel_trans hB.out Y3.out).grown hgrow BS.out (fun q hq => (World.ownsRow.lt O2.out q hq).1))
        clear hown hgrow hat O1 O2 O3 P3 FN
        go_wp2
        go_roundw
        case rel => exact ⟨k + 1, by omega, by go_num, SN, B2⟩
        case measure => simp [intOf]; omega
    · obtain rfl : k = n := by omega
      go_wp2
      go_returns
      exact ⟨_, rfl, by have := hO.out; rwa [hn.out, List.take_length] at this, hB.out⟩
theorem refCopy_nil (a : Option Addr) (cap : Nat) (w : World) :
    Calls Try.prog 19 #[.slice a 0 cap] w fun e w' => ∃ u, e = .returned u ∧ OwnC w' w.heap.size u [] ∧ Below w.heap.size w w' := by
  have H0 : Hid (OwnC w w.heap.size (.slice none 0 0) []) := ⟨[], rfl, World.ownsRow_nil _ _ _ _, fun q hq => by simp at hq⟩
  go_enter Try.func19, Try.ntmps19
  go_wp2_with fail
  go_loopw [3, 4] (fun out ii wr => ii = .int .i64 0 ∧ out = .slice none 0 0 ∧ wr = w) (fun _ _ _ => 0)
  case atStart => exact ⟨rfl, rfl, rfl⟩
  case round =>
    obtain ⟨rfl, rfl, rfl⟩ := hrel
    go_wp2
    go_returns
    exact ⟨_, rfl, H0.out, Below.refl _ _⟩
theorem refCopy_any (v : Value) (l : List Ck) (w : World) (hv : Cks w v l) (hl : l.length ≤ 1000) (hp : ∀ c ∈ l, c.pf.length ≤ 1000) :
    Calls Try.prog 19 #[v] w fun e w' => ∃ u, e = .returned u ∧ OwnC w' w.heap.size u l ∧ Below w.heap.size w w' := by
  by_cases h0 : 0 < l.length
  · obtain ⟨b, off, cap, rfl, hb, _, hc⟩ := hv.cks h0
    exact refCopy_some b off _ cap l w hl rfl hb hp hc
  · obtain ⟨a, cap, rfl, _⟩ := hv.shape
    obtain rfl : l = [] := List.length_eq_zero_iff.1 (by omega)
    exact refCopy_nil a cap w
/-- the numbers of a cask are in the machine's range -/
def CkW (c : Ck) : Prop := c.nm.size ≤ 9223372036854775807 ∧ (-9223372036854775808 ≤ c.ps ∧ c.ps ≤ 9223372036854775807) ∧ (-9223372036854775808 ≤ c.dc ∧ c.dc ≤ 9223372036854775807)
theorem Cks.wide {W : World} {v : Value} {l : List Ck} (h : Cks W v l) : ∀ c ∈ l, CkW c := by
  intro c hc
  obtain ⟨j, hj, rfl⟩ := List.getElem_of_mem hc
  obtain ⟨b, off, cap, _, _, _, g⟩ := h.cks (by omega)
  obtain ⟨_, _, _, _, _, _, _, r⟩ := g j hj
  exact r
end Go.Proofs.Ytpnlfeljmpfeoab

/- A cask in a box: copies of it by a closure, and as a list of one. -/
namespace Go.Proofs.Ytpnlfeljmpfeoab
open Go.RowKit

/-- a cask in a block of the call's own -/
def CkB (q : Nat) (W : World) (c : Ck) : Prop :=
  ∃ a cap, Quad q W (.string c.nm) (.int .i64 c.ps) (.slice a c.pf.length cap) (.int .i64 c.dc) ∧ Pts W (.slice a c.pf.length cap) c.pf ∧ CkW c
theorem CkB.below {q : Nat} {W W' : World} {c : Ck} (h : CkB q W c) (hb : Below W.heap.size W W') : CkB q W' c := by
  obtain ⟨a, cap, h1, h2, h3⟩ := h
  exact ⟨a, cap, h1.below hb, h2.below hb, h3⟩
theorem CkB.alloc {q : Nat} {W : World} {c : Ck} (h : CkB q W c) (o : Obj) : CkB q (W.alloc o) c := h.below (bel_alloc (Below.refl _ _))
theorem CkB.val {q : Nat} {W : World} {c : Ck} (h : CkB q W c) : ∃ a cap, W.cell? ⟨q, 0, none⟩ = some (.string c.nm) ∧ W.cell? ⟨q, 1, none⟩ = some (.int .i64 c.ps) ∧ W.cell? ⟨q, 2, none⟩ = some (.slice a c.pf.length cap) ∧ W.cell? ⟨q, 3, none⟩ = some (.int .i64 c.dc) ∧ CkV W (.agg #[.string c.nm, .int .i64 c.ps, .slice a c.pf.length cap, .int .i64 c.dc]) c := by
  obtain ⟨a, cap, ⟨h0, h1, h2, h3, _, _⟩, hp, hw⟩ := h
  exact ⟨a, cap, h0, h1, h2, h3, a, cap, rfl, hp, hw⟩
theorem CkB.new {W : World} {c : Ck} {a : Option Addr} {cap : Nat} (hp : Pts W (.slice a c.pf.length cap) c.pf) (hw : CkW c) : CkB W.heap.size (W.alloc (.cells #[.string c.nm, .int .i64 c.ps, .slice a c.pf.length cap, .int .i64 c.dc] 36)) c :=
  ⟨a, cap, Quad.new _ _ _ _ _ _, hp.alloc _, hw⟩
/-- a list of one, laid now -/
theorem cks_one {W : World} {c : Ck} {a : Option Addr} {cap : Nat} (hp : Pts W (.slice a c.pf.length cap) c.pf) (hw : CkW c) : Cks (W.alloc (.cells #[.string c.nm, .int .i64 c.ps, .slice a c.pf.length cap, .int .i64 c.dc] 36)) (.slice (some ⟨W.heap.size, 0, none⟩) 1 1) [c] := by
  obtain ⟨h0, h1, h2, h3, _, h5⟩ := Quad.new W (.string c.nm) (.int .i64 c.ps) (.slice a c.pf.length cap) (.int .i64 c.dc) 36
  refine ⟨_, 1, rfl, by simp, .inr ⟨W.heap.size, 0, rfl, h5, fun j hj => ?_⟩⟩
  obtain rfl : j = 0 := by simpa using hj
  exact ⟨_, _, _, _, h0, h1, h2, h3, a, cap, rfl, hp.alloc _, hw⟩
theorem few_one (c : Ck) : fewB [c] = fewC c := by unfold fewB; simp
theorem fewC_pf {c : Ck} (h : fewC c = true) : c.pf.length ≤ 33 ∧ c.nm.size ≤ 70 := by
  unfold fewC at h; simpa using h
set_option maxHeartbeats 8000000 in
set_option maxRecDepth 100000 in
theorem own_tol (q : Nat) (c : Ck) (w : World) (h : CkB q w c) (hp : c.pf.length ≤ 1000) :
    Calls Try.prog 30 #[.pointer (some ⟨q, 0, none⟩)] w fun e w' => ∃ v, e = .returned v ∧ CkV w' v c ∧ Below w.heap.size w w' := by
  have HQ := Lib.hid h
  obtain ⟨a, cap, hq, hP, hW⟩ := h
  have HW := Lib.hid hW
  have T0 := Lib.hid (Quad.new w (.string ByteArray.empty) (.int .i64 0) (.slice none 0 0) (.int .i64 0) 36)
  have c0 : ∀ o, (w.alloc o).cell? ⟨q, 0, none⟩ = some (.string c.nm) := fun o => (hq.alloc o).1
  have c1 : ∀ o, (w.alloc o).cell? ⟨q, 1, none⟩ = some (.int .i64 c.ps) := fun o => (hq.alloc o).2.1
  have c2 : ∀ o, (w.alloc o).cell? ⟨q, 2, none⟩ = some (.slice a c.pf.length cap) := fun o => (hq.alloc o).2.2.1
  have c3 : ∀ o, (w.alloc o).cell? ⟨q, 3, none⟩ = some (.int .i64 c.dc) := fun o => (hq.alloc o).2.2.2.1
  have HC : Hid (∀ o : Obj, Calls Try.prog 19 #[.slice (some ⟨w.heap.size + 1, 0, none⟩) 1 1] ((w.alloc o).alloc (.cells #[.string c.nm, .int .i64 c.ps, .slice a c.pf.length cap, .int .i64 c.dc] 36)) fun e w' => ∃ u, e = .returned u ∧ OwnC w' (w.heap.size + 1 + 1) u [c] ∧ Below (w.heap.size + 1 + 1) ((w.alloc o).alloc (.cells #[.string c.nm, .int .i64 c.ps, .slice a c.pf.length cap, .int .i64 c.dc] 36)) w') := fun o => by
    have CO := cks_one (hP.alloc o) hW
    have := refCopy_any _ [c] _ CO (by simp) (by intro d hd; rw [List.mem_singleton] at hd; subst hd; exact hp)
    simp only [World.size_alloc] at this
    exact this
  clear hP hq
  generalize hL : c.pf.length = L at *
  go_enter Try.func30, Try.ntmps30
  go_wp2_with fail
  refine (HC.out _).mono ?_
  rintro e w2 ⟨u, rfl, gO, gg⟩
  obtain ⟨g, cap', a', cp', rfl, hg, d0, d1, d2, d3, hO⟩ := gO.one
  have hsz : ∀ o o', ((w.alloc o).alloc o').heap.size = w.heap.size + 1 + 1 := fun o o' => by simp
  rw [← hsz] at gg
  have X1 : Hid (Below w.heap.size w w2) := Lib.hid (bel_alloc (bel_alloc gg))
  replace T0 := Lib.hid ((T0.out.alloc (.cells #[.string c.nm, .int .i64 c.ps, .slice a L cap, .int .i64 c.dc] 36)).below gg)
  have OP := Lib.hid hO
  clear gO gg HC hO c0 c1 c2 c3
  obtain ⟨u0, u1, u2, u3, uf, _⟩ := T0.out
  have f0 := uf 0 (by omega)
  have f1 := uf 1 (by omega)
  have f2 := uf 2 (by omega)
  have f3 := uf 3 (by omega)
  clear uf
  rw [hL] at d2 OP
  go_wp2
  obtain ⟨t0, t1, t2, t3⟩ := quad_read w2 w.heap.size (.string c.nm) (.int .i64 c.ps) (.slice a' L cp') (.int .i64 c.dc) u0 u1 u2 u3
  refine bodyPost_ret (v := .agg #[.string c.nm, .int .i64 c.ps, .slice a' L cp', .int .i64 c.dc]) (by simp [results, Try.results30, go_sem, t0, t1, t2, t3]) rfl ?_
  have hs : w.heap.size < w.heap.size + 1 + 1 := by omega
  have P2 := own_far (b := w.heap.size) (i := 3) (z := .int .i64 c.dc) (own_far (b := w.heap.size) (i := 2) (z := .slice a' L cp') (own_far (b := w.heap.size) (i := 1) (z := .int .i64 c.ps) (own_far (b := w.heap.size) (i := 0) (z := .string c.nm) OP.out hs) hs) hs) hs
  exact ⟨_, rfl, ⟨a', cp', by rw [hL], by rw [hL]; exact OwnP.pts P2, HW.out⟩, (((X1.out.setCell (Nat.le_refl _) _).setCell (Nat.le_refl _) _).setCell (Nat.le_refl _) _).setCell (Nat.le_refl _) _⟩
set_option maxHeartbeats 8000000 in
set_option maxRecDepth 100000 in
theorem own_ccs (q : Nat) (c : Ck) (w : World) (h : CkB q w c) (hp : c.pf.length ≤ 1000) :
    Calls Try.prog 18 #[.pointer (some ⟨q, 0, none⟩)] w fun e w' => ∃ v, e = .returned v ∧ CkV w' v c ∧ Below w.heap.size w w' := by
  have HQ := Lib.hid h
  obtain ⟨a, cap, hq, hP, hW⟩ := h
  have HW := Lib.hid hW
  have T0 := Lib.hid (Quad.new w (.string ByteArray.empty) (.int .i64 0) (.slice none 0 0) (.int .i64 0) 36)
  have c0 : ∀ o, (w.alloc o).cell? ⟨q, 0, none⟩ = some (.string c.nm) := fun o => (hq.alloc o).1
  have c1 : ∀ o, (w.alloc o).cell? ⟨q, 1, none⟩ = some (.int .i64 c.ps) := fun o => (hq.alloc o).2.1
  have c2 : ∀ o, (w.alloc o).cell? ⟨q, 2, none⟩ = some (.slice a c.pf.length cap) := fun o => (hq.alloc o).2.2.1
  have c3 : ∀ o, (w.alloc o).cell? ⟨q, 3, none⟩ = some (.int .i64 c.dc) := fun o => (hq.alloc o).2.2.2.1
  have HC : Hid (∀ o : Obj, Calls Try.prog 19 #[.slice (some ⟨w.heap.size + 1, 0, none⟩) 1 1] ((w.alloc o).alloc (.cells #[.string c.nm, .int .i64 c.ps, .slice a c.pf.length cap, .int .i64 c.dc] 36)) fun e w' => ∃ u, e = .returned u ∧ OwnC w' (w.heap.size + 1 + 1) u [c] ∧ Below (w.heap.size + 1 + 1) ((w.alloc o).alloc (.cells #[.string c.nm, .int .i64 c.ps, .slice a c.pf.length cap, .int .i64 c.dc] 36)) w') := fun o => by
    have CO := cks_one (hP.alloc o) hW
    have := refCopy_any _ [c] _ CO (by simp) (by intro d hd; rw [List.mem_singleton] at hd; subst hd; exact hp)
    simp only [World.size_alloc] at this
    exact this
  clear hP hq
  generalize hL : c.pf.length = L at *
  go_enter Try.func18, Try.ntmps18
  go_wp2_with fail
  refine (HC.out _).mono ?_
  rintro e w2 ⟨u, rfl, gO, gg⟩
  obtain ⟨g, cap', a', cp', rfl, hg, d0, d1, d2, d3, hO⟩ := gO.one
  have hsz : ∀ o o', ((w.alloc o).alloc o').heap.size = w.heap.size + 1 + 1 := fun o o' => by simp
  rw [← hsz] at gg
  have X1 : Hid (Below w.heap.size w w2) := Lib.hid (bel_alloc (bel_alloc gg))
  replace T0 := Lib.hid ((T0.out.alloc (.cells #[.string c.nm, .int .i64 c.ps, .slice a L cap, .int .i64 c.dc] 36)).below gg)
  have OP := Lib.hid hO
  clear gO gg HC hO c0 c1 c2 c3
  obtain ⟨u0, u1, u2, u3, uf, _⟩ := T0.out
  have f0 := uf 0 (by omega)
  have f1 := uf 1 (by omega)
  have f2 := uf 2 (by omega)
  have f3 := uf 3 (by omega)
  clear uf
  rw [hL] at d2 OP
  go_wp2
  obtain ⟨t0, t1, t2, t3⟩ := quad_read w2 w.heap.size (.string c.nm) (.int .i64 c.ps) (.slice a' L cp') (.int .i64 c.dc) u0 u1 u2 u3
  refine bodyPost_ret (v := .agg #[.string c.nm, .int .i64 c.ps, .slice a' L cp', .int .i64 c.dc]) (by simp [results, Try.results18, go_sem, t0, t1, t2, t3]) rfl ?_
  have hs : w.heap.size < w.heap.size + 1 + 1 := by omega
  have P2 := own_far (b := w.heap.size) (i := 3) (z := .int .i64 c.dc) (own_far (b := w.heap.size) (i := 2) (z := .slice a' L cp') (own_far (b := w.heap.size) (i := 1) (z := .int .i64 c.ps) (own_far (b := w.heap.size) (i := 0) (z := .string c.nm) OP.out hs) hs) hs) hs
  exact ⟨_, rfl, ⟨a', cp', by rw [hL], by rw [hL]; exact OwnP.pts P2, HW.out⟩, (((X1.out.setCell (Nat.le_refl _) _).setCell (Nat.le_refl _) _).setCell (Nat.le_refl _) _).setCell (Nat.le_refl _) _⟩
end Go.Proofs.Ytpnlfeljmpfeoab

/- The statements about layer 10: the example. -/
namespace Go.Proofs.Ytpnlfeljmpfeoab
open Go.RowKit

set_option maxRecDepth 100000 in
set_option maxHeartbeats 16000000 in
theorem awake_any (w : World) : Calls Try.prog 10 #[] w fun e w' => e = .returned (.bool true) ∧ Below w.heap.size w w' := by
  have BA := Lib.hid (fun W => barrel_any W)
  have HF := Lib.hid (fun v W (h : Pts W v (cyl 10 3)) => cFru_any v _ W h)
  have HS := Lib.hid (fun v W (h : Pts W v (cyl 10 3)) => cSpc_any v _ W h)
  have HV := Lib.hid (fun v W (h : CkV W v bar) => cVol_any v bar W h)
  have HG := Lib.hid (fun v W (h : CkV W v bar) => cAgr_any v bar 10 W h)
  have HG2 := Lib.hid (fun v W (h : CkV W v bar) => cAgr_any v bar 250 W h)
  have HR := Lib.hid (fun v W (h : CkV W v bar) => cRom_any v bar 100 W h)
  have HT := Lib.hid (fun v W (h : Cks W v [bar]) => cTot_any v _ W h)
  obtain ⟨x1, x2, x3, x4⟩ := cyl_ex
  obtain ⟨b1, b2, b3, b4, b5, b6, b7, b8, b9, b10⟩ := bar_ex
  rw [x1, x2] at HF
  rw [x1, x3, x4] at HS
  rw [b1, b2, b3] at HV
  rw [b4, b5] at HG
  rw [b6, b7] at HG2
  rw [b8, b9, b10] at HR
  have t0 := li_one b1
  have t1 : toL [bar] = 387 := by unfold toL; rw [if_pos t0]; show 0 + vlL bar = 387; rw [b2]; rfl
  have t2 : toH [bar] = 388 := by unfold toH; rw [if_pos t0]; show 0 + vlH bar = 388; rw [b3]; rfl
  rw [t0, t1, t2] at HT
  have Q1 : ∀ (p q : Int) W, (binOp .eql 32 (.agg #[.int .i64 p, .int .i64 q]) (.agg #[.int .i64 p, .int .i64 q])).run Try.prog W = .ok (.bool true) W := fun p q W => by rw [run_eql_bounds, show samB p q p q = true by simp [samB]]
  have PL : ∀ W, Pts (World.alloc W (.cells #[.int .i64 0, .int .i64 3, .int .i64 10, .int .i64 3] 30)) (.slice (some ⟨W.heap.size, 0, none⟩) 2 2) (cyl 10 3) := fun W => pts_lit W (cyl 10 3) _ rfl (by decide)
  clear x1 x2 x3 x4 b1 b2 b3 b4 b5 b6 b7 b8 b9 b10 t0 t1 t2
  have HB := Lib.hid (Below.refl w.heap.size w)
  go_enter Try.func10, Try.ntmps10
  go_wp2_with fail
  refine (HF.out _ _ (PL _)).mono ?_
  rintro e w2 ⟨rfl, h1⟩
  replace h1 := bel_alloc h1
  replace HB := Lib.hid (bel_trans HB.out h1); clear h1
  go_wp2_with fail
  refine (HS.out _ _ (PL _)).mono ?_
  rintro e w3 ⟨rfl, h1⟩
  replace h1 := bel_alloc h1
  replace HB := Lib.hid ((bel_trans HB.out h1).alloc (bel_trans HB.out h1).size (.cells #[.int .i64 282, .int .i64 283] 32)); clear h1
  have T1 := Lib.hid (Two.new w3 (.int .i64 282) (.int .i64 283) 32)
  go_wp2_with fail
  refine (BA.out _).mono ?_
  rintro e w4 ⟨V1, rfl, hx, h1⟩
  replace T1 := Lib.hid (T1.out.below h1)
  replace HB := Lib.hid (bel_trans HB.out h1); clear h1
  have N1 := Lib.hid hx; clear hx
  go_wp2_with fail
  refine (HV.out _ _ N1.out).mono ?_
  rintro e w5 ⟨rfl, h1⟩
  replace T1 := Lib.hid ((T1.out.below h1).alloc (.cells #[.int .i64 387, .int .i64 388] 32))
  replace N1 := Lib.hid ((N1.out.below h1).alloc (.cells #[.int .i64 387, .int .i64 388] 32))
  replace HB := Lib.hid ((bel_trans HB.out h1).alloc (bel_trans HB.out h1).size (.cells #[.int .i64 387, .int .i64 388] 32)); clear h1
  have T2 := Lib.hid (Two.new w5 (.int .i64 387) (.int .i64 388) 32)
  clear N1
  go_wp2_with fail
  refine (BA.out _).mono ?_
  rintro e w7 ⟨V2, rfl, hx, h1⟩
  replace T1 := Lib.hid (T1.out.below h1)
  replace T2 := Lib.hid (T2.out.below h1)
  replace HB := Lib.hid (bel_trans HB.out h1); clear h1
  have N2 := Lib.hid hx; clear hx
  go_wp2_with fail
  refine (HG.out _ _ N2.out).mono ?_
  rintro e w8 ⟨rfl, h1⟩
  replace T1 := Lib.hid (T1.out.below h1)
  replace T2 := Lib.hid (T2.out.below h1)
  replace N2 := Lib.hid (N2.out.below h1)
  replace HB := Lib.hid (bel_trans HB.out h1); clear h1
  clear N2
  go_wp2_with fail
  refine (BA.out _).mono ?_
  rintro e w10 ⟨V3, rfl, hx, h1⟩
  replace T1 := Lib.hid (T1.out.below h1)
  replace T2 := Lib.hid (T2.out.below h1)
  replace HB := Lib.hid (bel_trans HB.out h1); clear h1
  have N3 := Lib.hid hx; clear hx
  go_wp2_with fail
  refine (HG2.out _ _ N3.out).mono ?_
  rintro e w11 ⟨rfl, h1⟩
  replace T1 := Lib.hid (T1.out.below h1)
  replace T2 := Lib.hid (T2.out.below h1)
  replace N3 := Lib.hid (N3.out.below h1)
  replace HB := Lib.hid (bel_trans HB.out h1); clear h1
  clear N3
  go_wp2_with fail
  refine (BA.out _).mono ?_
  rintro e w13 ⟨V4, rfl, hx, h1⟩
  replace T1 := Lib.hid (T1.out.below h1)
  replace T2 := Lib.hid (T2.out.below h1)
  replace HB := Lib.hid (bel_trans HB.out h1); clear h1
  have N4 := Lib.hid hx; clear hx
  go_wp2_with fail
  refine (HR.out _ _ N4.out).mono ?_
  rintro e w14 ⟨rfl, h1⟩
  replace T1 := Lib.hid ((T1.out.below h1).alloc (.cells #[.int .i64 287, .int .i64 288] 32))
  replace T2 := Lib.hid ((T2.out.below h1).alloc (.cells #[.int .i64 287, .int .i64 288] 32))
  replace N4 := Lib.hid ((N4.out.below h1).alloc (.cells #[.int .i64 287, .int .i64 288] 32))
  replace HB := Lib.hid ((bel_trans HB.out h1).alloc (bel_trans HB.out h1).size (.cells #[.int .i64 287, .int .i64 288] 32)); clear h1
  have T3 := Lib.hid (Two.new w14 (.int .i64 287) (.int .i64 288) 32)
  clear N4
  go_wp2_with fail
  refine (BA.out _).mono ?_
  rintro e w16 ⟨V5, rfl, hx, h1⟩
  replace T1 := Lib.hid (T1.out.below h1)
  replace T2 := Lib.hid (T2.out.below h1)
  replace T3 := Lib.hid (T3.out.below h1)
  replace HB := Lib.hid (bel_trans HB.out h1); clear h1
  have N5 := Lib.hid hx; clear hx
  obtain ⟨ax, cpx, hvx, hpx, hwx⟩ := N5.out
  subst hvx
  have N6 := Lib.hid (cks_now (W := (w16)) ⟨ax, cpx, rfl, hpx, hwx⟩)
  go_wp2_with fail
  refine (HT.out _ _ N6.out).mono ?_
  rintro e w17 ⟨rfl, h1⟩
  replace h1 := bel_alloc h1
  replace T1 := Lib.hid ((T1.out.below h1).alloc (.cells #[.int .i64 387, .int .i64 388] 32))
  replace T2 := Lib.hid ((T2.out.below h1).alloc (.cells #[.int .i64 387, .int .i64 388] 32))
  replace T3 := Lib.hid ((T3.out.below h1).alloc (.cells #[.int .i64 387, .int .i64 388] 32))
  replace N5 := Lib.hid ((N5.out.below h1).alloc (.cells #[.int .i64 387, .int .i64 388] 32))
  replace HB := Lib.hid ((bel_trans HB.out h1).alloc (bel_trans HB.out h1).size (.cells #[.int .i64 387, .int .i64 388] 32)); clear h1
  have T4 := Lib.hid (Two.new w17 (.int .i64 387) (.int .i64 388) 32)
  obtain ⟨T10, T11, T12, T13, T14⟩ := T1.out
  obtain ⟨T20, T21, T22, T23, T24⟩ := T2.out
  obtain ⟨T30, T31, T32, T33, T34⟩ := T3.out
  obtain ⟨T40, T41, T42, T43, T44⟩ := T4.out
  go_wp2
  go_returns
  exact ⟨rfl, HB.out⟩

end Go.Proofs.Ytpnlfeljmpfeoab

/- How arguments are opened: slices of points. -/
namespace Go.Proofs.Ytpnlfeljmpfeoab
open Go.ChangeShapes Go.WideShapes Go.ChangeAt Go.RowKit Go.Joins

theorem own : ownKnob Try.prog.godebug = none := by kernel_rfl
theorem laidOut : laidOutB Try.prog = true := by kernel_rfl
theorem wf_bd {n : Int} (h : (Lit.int .i64 n).wf = true) : -9223372036854775808 ≤ n ∧ n ≤ 9223372036854775807 := by
  have := bounds_i64 h
  omega
set_option maxRecDepth 100000 in
theorem open_pts_at {H : Type} {enc : TypeId × Value → H} {w : World} {base fuel : Nat} {spare : Nat → Bool} {held : Bool} {v : Value} {y : DataW H × List MemPlace} (hs : ∀ k, spare k = true)
    (hf : DataW.trod enc Try.prog w base spare held fuel 22 [v] = some y) :
    ∃ l : List (Int × Int), Pts w v l := by
  rcases Deep.open_slice_pairs Try.underlying22 Try.underlying30 (by kernel_rfl) rfl rfl (by kernel_rfl) (by kernel_rfl) hf with ⟨hcs, _⟩ | ⟨x, len0, cap0, m, n, V0, V1, D0, D1, P0, P1, hcs, _, hl, hm, hmm, _, hi⟩
  · simp only [List.cons.injEq, and_true] at hcs
    subst hcs
    exact ⟨[], none, 0, rfl, ⟨by simp, by omega⟩, .inl rfl⟩
  · simp only [List.cons.injEq, and_true] at hcs
    subst hcs
    unfold maxLen at hm
    rw [hs] at hmm
    simp only [if_true] at hmm
    subst hmm
    have hint : ∀ i, i < len0 → ∃ q : Int × Int, w.cell? (x.add (i * 2)) = some (.int .i64 q.1) ∧ w.cell? (x.add (i * 2 + 1)) = some (.int .i64 q.2) := by
      intro i hlt
      obtain ⟨h0, h1, h2, h3⟩ := hi i (by omega)
      obtain ⟨a, ea, _, _⟩ := DataW.trod_int (k := .i64) Try.underlying3 h2
      obtain ⟨b, eb, _, _⟩ := DataW.trod_int (k := .i64) Try.underlying3 h3
      simp only [List.cons.injEq, and_true] at ea eb
      exact ⟨(a, b), by rw [h0, ea], by rw [h1, eb]⟩
    let f : Nat → Int × Int := fun i => if hlt : i < len0 then (hint i hlt).choose else (0, 0)
    have hf2 : ∀ i, i < len0 → w.cell? (x.add (i * 2)) = some (.int .i64 (f i).1) ∧ w.cell? (x.add (i * 2 + 1)) = some (.int .i64 (f i).2) := by
      intro i hlt
      have := (hint i hlt).choose_spec
      simp only [f, dif_pos hlt]
      exact this
    have hlen : ((List.range len0).map f).length = len0 := by simp
    refine ⟨(List.range len0).map f, some x, m, by rw [hlen], by rw [hlen]; omega, ?_⟩
    rw [hlen]
    by_cases h0 : len0 = 0
    · exact .inl h0
    · right
      obtain ⟨b, off, spot⟩ := x
      have hspot : spot = none := by simpa [Addr.add] using World.cell?_spot (hf2 0 (by omega)).1
      subst hspot
      have hb := World.block_lt_of_cell? w _ (hf2 0 (by omega)).1
      refine ⟨b, off, rfl, by simpa [Addr.add] using hb, fun j hj => ?_⟩
      obtain ⟨g0, g1⟩ := hf2 j hj
      rw [Go.WideShapes.add_plain] at g0 g1
      unfold gX gR
      rw [List.getD_eq_getElem?_getD, List.getElem?_map, List.getElem?_range hj]
      exact ⟨g0, by rw [Nat.add_assoc]; exact g1⟩
theorem open_pts {H : Type} {enc : TypeId × Value → H} {w : World} {r : Reach} {b0 : Nat} {v : Value} {d : DataW H} {p : List MemPlace}
    (hv : Value.okWide Try.prog w r b0 22 v) (h : DataW.Trod enc Try.prog w 0 (fun _ => true) true 22 v d p) :
    ∃ l : List (Int × Int), Pts w v l := by
  obtain ⟨a0, len0, cap0, rfl⟩ := okWide_slice Try.underlying22 hv
  obtain ⟨fuel, hf⟩ := h
  exact open_pts_at (fun _ => rfl) hf
end Go.Proofs.Ytpnlfeljmpfeoab

/- How arguments are opened: casks, slices of casks. -/
namespace Go.Proofs.Ytpnlfeljmpfeoab
open Go.ChangeShapes Go.WideShapes Go.ChangeAt Go.RowKit Go.Joins

set_option maxRecDepth 100000 in
/-- a cask's four cells -/
theorem open_ck_at {H : Type} {enc : TypeId × Value → H} {w : World} {base n : Nat} {spare : Nat → Bool} {held : Bool} {v0 v1 v2 v3 : Value} {y0 y1 y2 y3 : DataW H × List MemPlace} (hs : ∀ k, spare k = true)
    (h0 : DataW.trod enc Try.prog w base spare held n 9 [v0] = some y0) (h1 : DataW.trod enc Try.prog w base spare held n 3 [v1] = some y1) (h2 : DataW.trod enc Try.prog w base spare held n 22 [v2] = some y2) (h3 : DataW.trod enc Try.prog w base spare held n 3 [v3] = some y3) :
    ∃ c, CkV w (.agg #[v0, v1, v2, v3]) c := by
  obtain ⟨s, e0, _, ws⟩ := DataW.trod_string Try.underlying9 h0
  obtain ⟨a, e1, _, wa⟩ := DataW.trod_int (k := .i64) Try.underlying3 h1
  obtain ⟨b, e3, _, wb⟩ := DataW.trod_int (k := .i64) Try.underlying3 h3
  obtain ⟨l, hl⟩ := open_pts_at hs h2
  simp only [List.cons.injEq, and_true] at e0 e1 e3
  subst e0 e1 e3
  obtain ⟨ad, cap, rfl, _, _⟩ := hl.shape
  unfold maxLen at ws
  exact ⟨⟨s, a, l, b⟩, ad, cap, rfl, hl, by omega, wf_bd wa, wf_bd wb⟩
set_option maxRecDepth 100000 in
/-- a cask by value -/
theorem open_ck {H : Type} {enc : TypeId × Value → H} {w : World} {r : Reach} {b0 : Nat} {v : Value} {d : DataW H} {p : List MemPlace}
    (hv : Value.okWide Try.prog w r b0 36 v) (h : DataW.Trod enc Try.prog w 0 (fun _ => true) true 36 v d p) : ∃ c, CkV w v c := by
  obtain ⟨v0, v1, v2, v3, y0, y1, y2, y3, n, rfl, _, _, h0, h1, h2, h3⟩ := open_agg4 Try.underlying36 (by kernel_rfl) (by kernel_rfl) hv h
  exact open_ck_at (fun _ => rfl) h0 h1 h2 h3
set_option maxRecDepth 100000 in
/-- a slice of casks -/
theorem open_cks {H : Type} {enc : TypeId × Value → H} {w : World} {r : Reach} {b0 : Nat} {v : Value} {d : DataW H} {p : List MemPlace}
    (hv : Value.okWide Try.prog w r b0 38 v) (h : DataW.Trod enc Try.prog w 0 (fun _ => true) true 38 v d p) : ∃ l : List Ck, Cks w v l := by
  obtain ⟨a0, len0, cap0, rfl⟩ := okWide_slice Try.underlying38 hv
  obtain ⟨fuel, hf⟩ := h
  rcases Deep.open_slice Try.underlying38 hf with ⟨hcs, _⟩ | ⟨x, l, c, m, n, D, Pl, hcs, _, hl, hm, hmm, _, hi⟩
  · simp [Value.cells] at hcs
    obtain ⟨rfl, rfl, rfl⟩ := hcs
    exact ⟨[], none, 0, rfl, ⟨by simp, by omega⟩, .inl rfl⟩
  · simp [Value.cells] at hcs
    obtain ⟨rfl, rfl, rfl⟩ := hcs
    unfold maxLen at hm
    simp only [if_true] at hmm
    subst hmm
    have ce : Try.prog.cellsOf 36 = 4 := by kernel_rfl
    rw [ce] at hi
    have hint : ∀ i, i < len0 → ∃ c : Ck, ∃ x0 x1 x2 x3, w.cell? (x.add (i * 4)) = some x0 ∧ w.cell? (x.add (i * 4 + 1)) = some x1 ∧ w.cell? (x.add (i * 4 + 2)) = some x2 ∧ w.cell? (x.add (i * 4 + 3)) = some x3 ∧ CkV w (.agg #[x0, x1, x2, x3]) c := by
      intro i hlt
      obtain ⟨cs', h1, h2⟩ := hi i (by omega)
      obtain ⟨_, hlen, hcell⟩ := World.cells?_some h1
      obtain ⟨y0, y1, y2, y3, k, _, _, g0, g1, g2, g3⟩ := trod_struct4 Try.underlying36 h2
      match cs', hlen with
      | [v0, v1, v2, v3], _ =>
        have e0 := hcell 0 (by omega)
        have e1 := hcell 1 (by omega)
        have e2 := hcell 2 (by omega)
        have e3 := hcell 3 (by omega)
        rw [Deep.add_add] at e0 e1 e2 e3
        have c0 : Try.prog.cellsOf 9 = 1 := by kernel_rfl
        have c1 : Try.prog.cellsOf 3 = 1 := by kernel_rfl
        have c2 : Try.prog.cellsOf 22 = 1 := by kernel_rfl
        simp only [c0, c1, c2] at g0 g1 g2 g3
        obtain ⟨q, hq⟩ := open_ck_at (fun _ => rfl) g0 g1 g2 g3
        exact ⟨q, v0, v1, v2, v3, by simpa using e0, by simpa using e1, by simpa using e2, by simpa using e3, hq⟩
    let f : Nat → Ck := fun i => if hlt : i < len0 then (hint i hlt).choose else ⟨ByteArray.empty, 0, [], 0⟩
    have hf2 : ∀ i, i < len0 → ∃ x0 x1 x2 x3, w.cell? (x.add (i * 4)) = some x0 ∧ w.cell? (x.add (i * 4 + 1)) = some x1 ∧ w.cell? (x.add (i * 4 + 2)) = some x2 ∧ w.cell? (x.add (i * 4 + 3)) = some x3 ∧ CkV w (.agg #[x0, x1, x2, x3]) (f i) := by
      intro i hlt
      have := (hint i hlt).choose_spec
      simp only [f, dif_pos hlt]
      exact this
    have hlen : ((List.range len0).map f).length = len0 := by simp
    refine ⟨(List.range len0).map f, some x, m, by rw [hlen], by rw [hlen]; omega, ?_⟩
    by_cases h0 : len0 = 0
    · exact .inl (by rw [hlen]; exact h0)
    · right
      obtain ⟨b, off, spot⟩ := x
      obtain ⟨z0, _, _, _, q0, _⟩ := hf2 0 (by omega)
      have hspot : spot = none := by simpa [Addr.add] using World.cell?_spot q0
      subst hspot
      have hb := World.block_lt_of_cell? w _ q0
      refine ⟨b, off, rfl, by simpa [Addr.add] using hb, fun j hj => ?_⟩
      obtain ⟨x0, x1, x2, x3, g0, g1, g2, g3, g⟩ := hf2 j (by omega)
      rw [Go.WideShapes.add_plain] at g0 g1 g2 g3
      have e : ((List.range len0).map f)[j] = f j := by simp
      rw [e]
      exact ⟨x0, x1, x2, x3, g0, by rw [Nat.add_assoc]; exact g1, by rw [Nat.add_assoc]; exact g2, by rw [Nat.add_assoc]; exact g3, g⟩
end Go.Proofs.Ytpnlfeljmpfeoab

/- What the statements about layer 10 need: their opening, the example. -/

/- Copies of lists of points that can be written; parts of slices. -/
namespace Go.Proofs.Ytpnlfeljmpfeoab
open Go.RowKit

/-- the cells of points that can be written -/
def CC (W : World) (g n : Nat) (F R : Nat → Int) : Prop :=
  ∀ j, j < n → (W.cell? ⟨g, j * 2, none⟩ = some (.int .i64 (F j)) ∧ W.cell? ⟨g, j * 2 + 1, none⟩ = some (.int .i64 (R j))) ∧ W.frozen? ⟨g, j * 2, none⟩ = false ∧ W.frozen? ⟨g, j * 2 + 1, none⟩ = false
theorem CC.drew {W : World} {g n : Nat} {F R : Nat → Int} (h : CC W g n F R) : CC W.drew g n F R := h
theorem CC.below {W W' : World} {g n : Nat} {F R : Nat → Int} (h : CC W g n F R) (hg : g < W.heap.size) (hb : Below W.heap.size W W') : CC W' g n F R := fun j hj => by
  obtain ⟨⟨h0, h1⟩, h2, h3⟩ := h j hj
  exact ⟨⟨by rw [(bcell hb).1 _ _ hg]; exact h0, by rw [(bcell hb).1 _ _ hg]; exact h1⟩, by rw [(bcell hb).2 _ _ hg]; exact h2, by rw [(bcell hb).2 _ _ hg]; exact h3⟩
theorem CC.congr {W : World} {g n : Nat} {F R F' R' : Nat → Int} (h : CC W g n F R) (e : ∀ j, j < n → F j = F' j ∧ R j = R' j) : CC W g n F' R' := fun j hj => by
  obtain ⟨e1, e2⟩ := e j hj
  have := h j hj
  rwa [e1, e2] at this
theorem cell_off {W : World} {g i k : Nat} {u v : Value} (h : W.cell? ⟨g, i, none⟩ = some v) (e : i ≠ k) : (W.setCell ⟨g, k, none⟩ u).cell? ⟨g, i, none⟩ = some v := by
  rw [World.cell?_setCell_other _ _ _ _ (by intro e2; simp only [Addr.mk.injEq] at e2; omega)]; exact h
/-- a store to an X -/
theorem CC.setX {W : World} {g n k : Nat} {F R : Nat → Int} (h : CC W g n F R) (hk : k < n) (z : Int) : CC (W.setCell ⟨g, k * 2, none⟩ (.int .i64 z)) g n (fun j => if j = k then z else F j) R := by
  intro j hj
  obtain ⟨⟨h0, h1⟩, h2, h3⟩ := h j hj
  refine ⟨⟨?_, cell_off h1 (by omega)⟩, by rw [World.frozen?_setCell]; exact h2, by rw [World.frozen?_setCell]; exact h3⟩
  by_cases e : j = k
  · subst e
    simp only [if_true]
    exact World.cell?_setCell_same _ _ _ h0
  · simp only [if_neg e]
    exact cell_off h0 (by omega)
/-- a store to a radius -/
theorem CC.setR {W : World} {g n k : Nat} {F R : Nat → Int} (h : CC W g n F R) (hk : k < n) (z : Int) : CC (W.setCell ⟨g, k * 2 + 1, none⟩ (.int .i64 z)) g n F (fun j => if j = k then z else R j) := by
  intro j hj
  obtain ⟨⟨h0, h1⟩, h2, h3⟩ := h j hj
  refine ⟨⟨cell_off h0 (by omega), ?_⟩, by rw [World.frozen?_setCell]; exact h2, by rw [World.frozen?_setCell]; exact h3⟩
  by_cases e : j = k
  · subst e
    simp only [if_true]
    exact World.cell?_setCell_same _ _ _ h1
  · simp only [if_neg e]
    exact cell_off h1 (by omega)
theorem CC.pts {W : World} {g n cap : Nat} {F R : Nat → Int} {l : List (Int × Int)} (h : CC W g n F R) (hg : g < W.heap.size) (hl : l.length = n) (hc : n ≤ cap ∧ cap ≤ 9223372036854775807) (e : ∀ j, j < n → F j = gX l j ∧ R j = gR l j) : Pts W (.slice (some ⟨g, 0, none⟩) n cap) l := by
  subst hl
  refine ⟨_, cap, rfl, hc, .inr ⟨g, 0, rfl, hg, fun j hj => ?_⟩⟩
  obtain ⟨⟨h0, h1⟩, _, _⟩ := h j hj
  obtain ⟨e1, e2⟩ := e j hj
  rw [Nat.zero_add, ← e1, ← e2]
  exact ⟨h0, h1⟩
/-- a copy that can be written -/
theorem clone_w (v : Value) (l : List (Int × Int)) (w : World) (h : Pts w v l) (h0 : 0 < l.length) (hn : l.length ≤ 1000) :
    Calls Try.prog 13 #[v] w fun e w' => ∃ g cap, e = .returned (.slice (some ⟨g, 0, none⟩) l.length cap) ∧ (l.length ≤ cap ∧ cap ≤ 9223372036854775807) ∧ w.heap.size ≤ g ∧ g < w'.heap.size ∧ CC w' g l.length (gX l) (gR l) ∧ Below w.heap.size w w' := by
  obtain ⟨a, c, rfl, hl, h | ⟨b, off, rfl, hb, hc⟩⟩ := h
  · omega
  · refine (clone_some ⟨b, off, none⟩ l.length c (flat l) w (flat_len l) hn ?_ (flat_one l)).mono fun _ w' ⟨u, g1, g2, _, g4⟩ => ?_
    · intro j u hj
      obtain ⟨i, hi, ⟨rfl, rfl⟩ | ⟨rfl, rfl⟩⟩ := flat_inv l j u hj
      · rw [Go.WideShapes.add_plain, World.cell?_alloc_lt w _ _ hb]
        exact (hc i hi).1
      · rw [Go.WideShapes.add_plain, World.cell?_alloc_lt w _ _ hb, ← Nat.add_assoc]
        exact (hc i hi).2
    · have g2' := g2
      obtain ⟨_, g5⟩ := g2
      rcases g5 with ⟨_, hx⟩ | ⟨g, cap, cur, rfl, hg, hh, hcc, hm, _⟩
      · omega
      · have hlt : g < w'.heap.size := (Array.getElem?_eq_some_iff.1 hh).1
        unfold maxLen at hm
        refine ⟨g, cap, g1, by omega, hg, hlt, fun j hj => ?_, g4⟩
        have hcell := World.ownsRow.cells g2' (g := g) rfl
        have hf := flat_at l j hj
        have c0 := hcell _ _ hf.1
        have c1 := hcell _ _ hf.2
        rw [Go.WideShapes.add_plain, Nat.zero_add] at c0 c1
        exact ⟨⟨c0, c1⟩, by simp [World.frozen?, hh], by simp [World.frozen?, hh]⟩
/-- the points from k on, and those up to k, as slices of the same memory -/
theorem Pts.from {W : World} {b off n cap k : Nat} {l : List (Int × Int)} (h : Pts W (.slice (some ⟨b, off, none⟩) n cap) l) (hk : k < n) : Pts W (.slice (some ⟨b, off + k * 2, none⟩) (n - k) (cap - k)) (l.drop k) := by
  obtain ⟨b', off', e, hb, hc⟩ := h.at (by omega)
  have hl := h.len
  obtain ⟨_, _, e2, hcap, _⟩ := h
  simp only [Value.slice.injEq] at e2
  simp only [Option.some.injEq, Addr.mk.injEq] at e
  obtain ⟨rfl, rfl, _⟩ := e
  refine ⟨_, _, by rw [List.length_drop, ← hl], by rw [List.length_drop]; omega, .inr ⟨b, off + k * 2, rfl, hb, fun j hj => ?_⟩⟩
  rw [List.length_drop, ← hl] at hj
  have := hc (k + j) (by omega)
  have gx : gX (l.drop k) j = gX l (k + j) ∧ gR (l.drop k) j = gR l (k + j) := by unfold gX gR; simp only [List.getD_eq_getElem?_getD, List.getElem?_drop]; exact ⟨trivial, trivial⟩
  rw [gx.1, gx.2]
  rw [Nat.add_mul, ← Nat.add_assoc] at this
  exact this
theorem Pts.upto {W : World} {b off n cap k : Nat} {l : List (Int × Int)} (h : Pts W (.slice (some ⟨b, off, none⟩) n cap) l) (hk : k < n) : Pts W (.slice (some ⟨b, off, none⟩) (k + 1) cap) (l.take (k + 1)) := by
  obtain ⟨b', off', e, hb, hc⟩ := h.at (by omega)
  have hl := h.len
  obtain ⟨_, _, e2, hcap, _⟩ := h
  simp only [Value.slice.injEq] at e2
  simp only [Option.some.injEq, Addr.mk.injEq] at e
  obtain ⟨rfl, rfl, _⟩ := e
  have e3 : (l.take (k + 1)).length = k + 1 := by rw [List.length_take]; omega
  refine ⟨_, cap, by rw [e3], by rw [e3]; omega, .inr ⟨b, off, rfl, hb, fun j hj => ?_⟩⟩
  rw [e3] at hj
  have := hc j (by omega)
  have gx : gX (l.take (k + 1)) j = gX l j ∧ gR (l.take (k + 1)) j = gR l j := by unfold gX gR; simp only [List.getD_eq_getElem?_getD, List.getElem?_take]; rw [if_pos hj]; exact ⟨rfl, rfl⟩
  rw [gx.1, gx.2]
  exact this
/-- points elsewhere are kept by a store -/
theorem Pts.far {W : World} {b off n cap g i : Nat} {l : List (Int × Int)} {z : Value} (h : Pts W (.slice (some ⟨b, off, none⟩) n cap) l) (hg : b ≠ g) : Pts (W.setCell ⟨g, i, none⟩ z) (.slice (some ⟨b, off, none⟩) n cap) l := by
  obtain ⟨a, c, e, hc, hh⟩ := h
  simp only [Value.slice.injEq] at e
  obtain ⟨rfl, rfl, rfl⟩ := e
  refine ⟨_, _, rfl, hc, ?_⟩
  rcases hh with hh | ⟨b', off', e, hb, hcl⟩
  · exact .inl hh
  · simp only [Option.some.injEq, Addr.mk.injEq] at e
    obtain ⟨rfl, rfl, _⟩ := e
    refine .inr ⟨b, off, rfl, by simpa [World.setCell] using hb, fun j hj => ?_⟩
    rw [World.cell?_setCell_other _ _ _ _ (by intro e; simp only [Addr.mk.injEq] at e; exact hg e.1.symm), World.cell?_setCell_other _ _ _ _ (by intro e; simp only [Addr.mk.injEq] at e; exact hg e.1.symm)]
    exact hcl j hj
end Go.Proofs.Ytpnlfeljmpfeoab

/- Bytes among the arguments. -/
namespace Go.Proofs.Ytpnlfeljmpfeoab
theorem wf_u8 {n : Int} (h : (Lit.int .u8 n).wf = true) : 0 ≤ n ∧ n ≤ 255 := by
  simp [Lit.wf] at h
  have e1 : IntKind.u8.min = 0 := by decide
  have e2 : IntKind.u8.max = 255 := by decide
  omega
end Go.Proofs.Ytpnlfeljmpfeoab
