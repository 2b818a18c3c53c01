/- Package proportion: Up. -/
import Derived.Test.YtlofblpfohnooabOf
namespace Go.Proofs.Ytlofblpfohnooab
open Go.RowKit

theorem ret_int {k : IntKind} {a b : Int} (h : a = b) : Ending.returned (.int k a) = .returned (.int k b) := by rw [h]

theorem up_walk (a b c q r x : Int) (w : World) (q0 : 0 ≤ q) (q1 : q ≤ 128849018880000) (hof : Hid (∀ W, Calls Try.prog 45 #[.int .i64 a, .int .i64 b, .int .i64 c] W fun e w' => e = .returned (.tuple #[.int .i64 q, .int .i64 r, .int .i64 x]) ∧ Below W.heap.size W w')) :
    Calls Try.prog 46 #[.int .i64 a, .int .i64 b, .int .i64 c] w fun e w' => e = .returned (.tuple #[.int .i64 (upQ q r x), .int .i64 (upE q r x)]) ∧ Below w.heap.size w w' := by
  go_enter Try.func46, Try.ntmps46
  go_wp2_with fail
  refine (hof.out _).mono ?_
  rintro e w1 ⟨rfl, hb1⟩
  go_wp2
  all_goals
    go_returns
    refine ⟨ret_two ?_ ?_, hb1⟩
  all_goals (simp only [upQ, upE]; grind)

theorem up_any (a b c : Int) (w : World) :
    Calls Try.prog 46 #[.int .i64 a, .int .i64 b, .int .i64 c] w fun e w' => e = .returned (.tuple #[.int .i64 (upQ (ofQ a b c) (ofR a b c) (ofE a b c)), .int .i64 (upE (ofQ a b c) (ofR a b c) (ofE a b c))]) ∧ Below w.heap.size w w' :=
  up_walk a b c _ _ _ w (ofQ_bd a b c).1 (ofQ_bd a b c).2 (fun W => of_any a b c W)

end Go.Proofs.Ytlofblpfohnooab
