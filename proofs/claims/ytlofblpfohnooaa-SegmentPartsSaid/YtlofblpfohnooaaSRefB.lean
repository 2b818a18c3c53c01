/- The reference of layer 7: a strip. -/
import Derived.Test.YtlofblpfohnooaaSRefA
import Derived.BigQuiet
namespace Go.Proofs.Ytlofblpfohnooaa
open Go.RowKit

set_option maxHeartbeats 4000000 in
theorem refOf_core (r c a b A0 A1 B0 B1 L H : Int) (w : World) (r0 : 0 ≤ r) (r1 : r ≤ 100000) (a0 : 0 ≤ a) (ab : a ≤ b) (b1 : b ≤ 200000) (p0 : 0 ≤ A0) (p1 : A0 ≤ 200000) (p2 : 0 ≤ A1) (p3 : A1 ≤ 200000) (q0 : 0 ≤ B0) (q1 : B0 ≤ 200000) (q2 : 0 ≤ B1) (q3 : B1 ≤ 200000)
    (hc : (a ≤ c ∧ c ≤ b ∧ H = 2 * r) ∨ (c < a ∧ H = max A1 B1) ∨ (a ≤ c ∧ b < c ∧ H = max A1 B1)) (hL : L = min A0 B0) (m0 : 0 ≤ (b - a) * L) (m1 : (b - a) * L ≤ 40000000000) (m2 : 0 ≤ (b - a) * H) (m3 : (b - a) * H ≤ 40000000000)
    (H1 : Hid (∀ W, Calls Try.prog 36 #[.int .i64 r, .int .i64 c, .int .i64 a] W fun e w' => e = .returned (.agg #[.int .i64 A0, .int .i64 A1]) ∧ Below W.heap.size W w'))
    (H2 : Hid (∀ W, Calls Try.prog 36 #[.int .i64 r, .int .i64 c, .int .i64 b] W fun e w' => e = .returned (.agg #[.int .i64 B0, .int .i64 B1]) ∧ Below W.heap.size W w')) :
    Calls Try.prog 31 #[.int .i64 r, .int .i64 c, .int .i64 a, .int .i64 b] w fun e w' => e = .returned (.agg #[.int .i64 ((b - a) * min A0 B0), .int .i64 ((b - a) * H)]) ∧ Below w.heap.size w w' := by
  have T0 := Lib.hid (Two.new w (.int .i64 0) (.int .i64 0) 33)
  have HL := Lib.hid hL
  clear hL
  have HC := Lib.hid hc
  clear hc
  go_enter Try.func31, Try.ntmps31
  go_wp2_with fail
  refine (H1.out _).mono ?_
  rintro e w1 ⟨rfl, gg⟩
  replace T0 := Lib.hid (T0.out.below gg)
  have X1 := Lib.hid (bel_alloc gg); clear gg
  go_wp2_with fail
  refine (H2.out _).mono ?_
  rintro e w2 ⟨rfl, gg⟩
  replace T0 := Lib.hid (((T0.out.below gg).alloc (.cells #[.int .i64 A0, .int .i64 A1] 33)).alloc (.cells #[.int .i64 B0, .int .i64 B1] 33))
  replace X1 := Lib.hid (bel_trans (bel_trans X1.out gg) (bel_alloc (bel_alloc (Below.refl ((w2.alloc (.cells #[.int .i64 A0, .int .i64 A1] 33)).alloc (.cells #[.int .i64 B0, .int .i64 B1] 33)).heap.size _)))); clear gg
  have TA := Lib.hid ((Two.new w2 (.int .i64 A0) (.int .i64 A1) 33).alloc (.cells #[.int .i64 B0, .int .i64 B1] 33))
  have TB := Lib.hid (Two.new (w2.alloc (.cells #[.int .i64 A0, .int .i64 A1] 33)) (.int .i64 B0) (.int .i64 B1) 33)
  go_wp2
  go_quiet (fail)
  obtain rfl := HL.out
  replace T0 : Two w.heap.size (((w2.alloc (.cells #[.int .i64 A0, .int .i64 A1] 33)).alloc (.cells #[.int .i64 B0, .int .i64 B1] 33)).drewN nq) (.int .i64 0) (.int .i64 0) := T0.out
  replace X1 := Lib.hid (bel_trans X1.out (bel_drewN _ nq))
  obtain ⟨z0, z1, f0, f1, hlt⟩ := T0
  clear TA TB HL
  generalize (((w2.alloc (.cells #[.int .i64 A0, .int .i64 A1] 33)).alloc (.cells #[.int .i64 B0, .int .i64 B1] 33)).drewN nq) = wq at *
  rcases HC.out with ⟨c1, c2, rfl⟩ | ⟨c1, rfl⟩ | ⟨c1, c2, rfl⟩
  · clear HC
    go_wp2
    obtain ⟨t0, t1⟩ := two_read wq w.heap.size (.int .i64 ((b - a) * min A0 B0)) (.int .i64 ((b - a) * (2 * r))) (z0) (z1)
    refine bodyPost_ret (v := .agg #[.int .i64 ((b - a) * min A0 B0), .int .i64 ((b - a) * (2 * r))]) (by simp [results, Try.results31, go_sem, t0, t1]) rfl ?_
    exact ⟨rfl, (X1.out.setCell (Nat.le_refl _) _).setCell (Nat.le_refl _) _⟩
  all_goals
    clear HC
    go_wp2
    obtain ⟨t0, t1⟩ := two_read wq w.heap.size (.int .i64 ((b - a) * min A0 B0)) (.int .i64 ((b - a) * max A1 B1)) (z0) (z1)
    refine bodyPost_ret (v := .agg #[.int .i64 ((b - a) * min A0 B0), .int .i64 ((b - a) * max A1 B1)]) (by simp [results, Try.results31, go_sem, t0, t1]) rfl ?_
    exact ⟨rfl, (X1.out.setCell (Nat.le_refl _) _).setCell (Nat.le_refl _) _⟩
theorem refOf_any (r c a b : Int) (w : World) (r0 : 0 ≤ r) (r1 : r ≤ 100000) (c0 : 0 ≤ c) (c1 : c ≤ 100000) (a0 : 0 ≤ a) (ab : a ≤ b) (b1 : b ≤ 200000) :
    Calls Try.prog 31 #[.int .i64 r, .int .i64 c, .int .i64 a, .int .i64 b] w fun e w' => e = .returned (.agg #[.int .i64 (ofL r c a b), .int .i64 (ofH r c a b)]) ∧ Below w.heap.size w w' := by
  have ha := hc_le r (a - c) r0
  have hb := hc_le r (b - c) r0
  have bd := of_bd r c a b r0 ab
  have q : (b - a) * (2 * r) ≤ 200000 * 200000 := Int.mul_le_mul (by omega) (by omega) (by omega) (by omega)
  refine refOf_core r c a b (2 * hcL r (a - c)) (2 * hcH r (a - c)) (2 * hcL r (b - c)) (2 * hcH r (b - c)) _ _ w r0 r1 a0 ab b1 (by omega) (by omega) (by omega) (by omega) (by omega) (by omega) (by omega) (by omega) ?_ rfl bd.1 (by show ofL r c a b ≤ _; omega) (by show 0 ≤ ofH r c a b; omega) (by show ofH r c a b ≤ _; omega) (fun W => refChd_any r c a W r0 r1 c0 c1 a0 (by omega)) (fun W => refChd_any r c b W r0 r1 c0 c1 (by omega) b1)
  by_cases h : a ≤ c ∧ c ≤ b
  · left; exact ⟨h.1, h.2, if_pos h⟩
  · right
    rw [if_neg h]
    by_cases h2 : c < a
    · left; exact ⟨h2, rfl⟩
    · right; exact ⟨by omega, by omega, rfl⟩
end Go.Proofs.Ytlofblpfohnooaa
