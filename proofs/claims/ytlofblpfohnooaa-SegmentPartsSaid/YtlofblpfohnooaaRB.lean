/- Plain facts on a root that is found bit by bit. No program stands in this text. -/
import Derived.Test.YtlofblpfohnooaaRM
namespace Go.Proofs.Ytlofblpfohnooaa

/-- q is the root of n as far as the bits from k on go; bit is the next one -/
def RBit (n q bit : Int) (k : Nat) : Prop := bit = 2 ^ k / 2 ∧ 0 ≤ q ∧ q * q ≤ n ∧ n < (q + 2 ^ k) * (q + 2 ^ k) ∧ q + 2 ^ k ≤ 2147483648
theorem two_pos (k : Nat) : (1 : Int) ≤ 2 ^ k := by
  induction k with
  | zero => simp
  | succ k ih => rw [Int.pow_succ]; omega
theorem two_half (k : Nat) : (2 : Int) ^ (k + 1) / 2 = 2 ^ k := by
  rw [Int.pow_succ, Int.mul_ediv_cancel _ (by omega)]
theorem RBit.start (n : Int) (h0 : 0 ≤ n) (h1 : n < 4611686018427387904) : RBit n 0 1073741824 31 := ⟨by decide, by omega, by simpa using h0, by simpa using h1, by decide⟩
theorem RBit.pos {n q bit : Int} {k : Nat} (h : RBit n q bit k) (hb : 0 < bit) : ∃ j, k = j + 1 ∧ bit = 2 ^ j ∧ (2 : Int) ^ k = bit + bit := by
  obtain ⟨e, _⟩ := h
  cases k with
  | zero => simp at e; omega
  | succ j =>
    rw [two_half] at e
    exact ⟨j, rfl, e, by rw [Int.pow_succ, ← e]; omega⟩
theorem RBit.bd {n q bit : Int} {k : Nat} (h : RBit n q bit k) (hb : 0 < bit) : 0 ≤ q ∧ q + bit ≤ 2147483647 ∧ 0 ≤ (q + bit) * (q + bit) ∧ (q + bit) * (q + bit) ≤ 4611686014132420609 := by
  obtain ⟨j, _, _, e⟩ := h.pos hb
  obtain ⟨_, q0, _, _, b⟩ := h
  rw [e] at b
  have h1 : q + bit ≤ 2147483647 := by omega
  have := sq_mono (show 0 ≤ q + bit by omega) h1
  exact ⟨q0, h1, Int.mul_nonneg (by omega) (by omega), by omega⟩
theorem RBit.up {n q bit : Int} {k : Nat} (h : RBit n q bit k) (hb : 0 < bit) (hq : (q + bit) * (q + bit) ≤ n) : ∃ j, k = j + 1 ∧ RBit n (q + bit) (bit / 2) j := by
  obtain ⟨j, ek, e, e2⟩ := h.pos hb
  obtain ⟨_, q0, _, a, b⟩ := h
  rw [e2] at a b
  refine ⟨j, ek, by rw [e], by omega, hq, ?_, by rw [← e]; omega⟩
  rw [← e, show q + bit + bit = q + (bit + bit) by omega]; exact a
theorem RBit.keep {n q bit : Int} {k : Nat} (h : RBit n q bit k) (hb : 0 < bit) (hq : n < (q + bit) * (q + bit)) : ∃ j, k = j + 1 ∧ RBit n q (bit / 2) j := by
  obtain ⟨j, ek, e, e2⟩ := h.pos hb
  obtain ⟨_, q0, c, a, b⟩ := h
  rw [e2] at b
  exact ⟨j, ek, by rw [e], q0, c, by rw [← e]; exact hq, by rw [← e]; omega⟩
theorem RBit.stop {n q bit : Int} {k : Nat} (h : RBit n q bit k) (hb : bit ≤ 0) : rt n = q := by
  obtain ⟨e, q0, c, a, _⟩ := h
  cases k with
  | zero => exact rt_of q0 c (by simpa using a)
  | succ j =>
    rw [two_half] at e
    have := two_pos j
    omega
end Go.Proofs.Ytlofblpfohnooaa
