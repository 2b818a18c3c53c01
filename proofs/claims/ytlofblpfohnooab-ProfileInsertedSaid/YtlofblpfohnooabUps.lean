/- The first numbers below a bound: what an iterator has yielded when some rounds are over. -/
import Derived.Lib.Hide
namespace Go.Proofs.Ytlofblpfohnooab
def ups (m k : Nat) : List (Fin m) := (List.range k).filterMap fun j => if h : j < m then some ⟨j, h⟩ else none
theorem ups_succ {m k : Nat} (h : k < m) : ups m (k + 1) = ups m k ++ [⟨k, h⟩] := by simp [ups, List.range_succ, h]
theorem ups_val {m k : Nat} (h : k ≤ m) : (ups m k).map (fun j => j.val) = List.range k := by
  induction k with
  | zero => simp [ups]
  | succ k ih => rw [ups_succ (by omega), List.map_append, ih (by omega), List.range_succ]; rfl
theorem ups_len {m k : Nat} (h : k ≤ m) : (ups m k).length = k := by
  have := congrArg List.length (ups_val h)
  simpa using this
theorem ups_zero (m : Nat) : ups m 0 = [] := rfl
end Go.Proofs.Ytlofblpfohnooab
