/- What root's functions return, and what follows from it. -/
import Derived.Test.YtlofblpfohnooaaRB
namespace Go.Proofs.Ytlofblpfohnooaa

def rnB (n : Int) : Bool := decide (0 ≤ n) && decide (n ≤ 1125899906842624)
theorem rnB_iff (n : Int) : rnB n = true ↔ 0 ≤ n ∧ n ≤ 1125899906842624 := by simp [rnB]
def rnE (n : Int) : Int := if rnB n = true then 0 else 2
noncomputable def dnQ (n : Int) : Int := if rnB n = true then rt n else 0
noncomputable def upR (n : Int) : Int := if rnB n = true then ce n else 0
noncomputable def sqB (n : Int) : Bool := rnB n && decide (rt n = ce n)
def fdB (n k : Int) : Bool := decide (0 ≤ n) && decide (n ≤ 1099511627776) && decide (1 ≤ k) && decide (k ≤ 1000)
theorem fdB_iff (n k : Int) : fdB n k = true ↔ (0 ≤ n ∧ n ≤ 1099511627776) ∧ 1 ≤ k ∧ k ≤ 1000 := by simp [fdB, and_assoc]
def fdE (n k : Int) : Int := if fdB n k = true then 0 else 2
noncomputable def fdQ (n k : Int) : Int := if fdB n k = true then rt (n * k * k) else 0
def hfB (r y : Int) : Bool := decide (0 ≤ r) && decide (r ≤ 100000) && decide (-100000 ≤ y) && decide (y ≤ 100000)
theorem hfB_iff (r y : Int) : hfB r y = true ↔ (0 ≤ r ∧ r ≤ 100000) ∧ -100000 ≤ y ∧ y ≤ 100000 := by simp [hfB, and_assoc]
def hfE (r y : Int) : Int := if hfB r y = true then 0 else 2
noncomputable def hfL (r y : Int) : Int := if hfB r y = true then hcL r y else 0
noncomputable def hfH (r y : Int) : Int := if hfB r y = true then hcH r y else 0

/-- RootBetween -/
theorem rn_facts (n : Int) (h : rnB n = true) :
    (0 ≤ rt n ∧ rt n ≤ 33554432) ∧ (ce n = rt n ∨ ce n = rt n + 1) ∧ rt n * rt n ≤ n ∧ n < (rt n + 1) * (rt n + 1) ∧ n ≤ ce n * ce n ∧ (rt n = ce n ↔ rt n * rt n = n) := by
  obtain ⟨h0, h1⟩ := (rnB_iff n).1 h
  obtain ⟨a0, a1, a2⟩ := rt_spec n h0
  obtain ⟨b0, b1, b2, b3⟩ := ce_spec n h0
  have hb := rt_le h0 (show (0 : Int) ≤ 33554432 by omega) (show n ≤ 33554432 * 33554432 by omega)
  exact ⟨⟨a0, hb⟩, by omega, a1, a2, b2, ⟨fun e => b3.1 e.symm, fun e => (b3.2 e).symm⟩⟩
theorem rn_sq (n : Int) (h : rnB n = true) : ce n ≤ 33554433 ∧ 0 ≤ ce n ∧ 0 ≤ rt n * rt n ∧ rt n * rt n ≤ 1125899906842624 ∧ (rt n + 1) * (rt n + 1) ≤ 1125899973951489 ∧ 0 ≤ ce n * ce n ∧ ce n * ce n ≤ 1125899973951489 := by
  obtain ⟨⟨a0, a1⟩, b, _⟩ := rn_facts n h
  have e1 := sq_mono a0 a1
  have e2 := sq_mono (show 0 ≤ rt n + 1 by omega) (show rt n + 1 ≤ 33554433 by omega)
  have e3 := sq_mono (show 0 ≤ ce n by omega) (show ce n ≤ 33554433 by omega)
  exact ⟨by omega, by omega, Int.mul_nonneg a0 a0, by omega, by omega, Int.mul_nonneg (by omega) (by omega), by omega⟩
/-- RootFolds -/
theorem fd_facts (n k : Int) (h : fdB n k = true) :
    rnB n = true ∧ k * rt n ≤ rt (n * k * k) ∧ rt (n * k * k) ≤ k * ce n ∧ 0 ≤ rt (n * k * k) ∧ rt (n * k * k) * rt (n * k * k) ≤ n * k * k ∧ n * k * k < (rt (n * k * k) + 1) * (rt (n * k * k) + 1) ∧
      (0 ≤ n * k ∧ n * k ≤ 1099511627776000) ∧ (0 ≤ n * k * k ∧ n * k * k ≤ 1099511627776000000) ∧ rt (n * k * k) ≤ 1048576000 ∧ rt n ≤ 1048576 ∧ ce n ≤ 1048576 := by
  obtain ⟨⟨h0, h1⟩, k1, k2⟩ := (fdB_iff n k).1 h
  have m1 : n * k ≤ 1099511627776 * 1000 := Int.mul_le_mul h1 k2 (by omega) (by omega)
  have m0 : 0 ≤ n * k := Int.mul_nonneg h0 (by omega)
  have p1 : n * k * k ≤ 1099511627776000 * 1000 := Int.mul_le_mul m1 k2 (by omega) (by omega)
  have p0 : 0 ≤ n * k * k := Int.mul_nonneg m0 (by omega)
  obtain ⟨a0, a1, a2⟩ := rt_spec _ p0
  have f := rt_fold n k h0 (by omega)
  have b1 := rt_le p0 (show (0 : Int) ≤ 1048576000 by omega) (show n * k * k ≤ 1048576000 * 1048576000 by omega)
  have b2 := rt_le h0 (show (0 : Int) ≤ 1048576 by omega) (show n ≤ 1048576 * 1048576 by omega)
  have b3 := ce_le h0 (show (0 : Int) ≤ 1048576 by omega) (show n ≤ 1048576 * 1048576 by omega)
  exact ⟨(rnB_iff n).2 ⟨h0, by omega⟩, f.1, f.2, a0, a1, a2, ⟨m0, by omega⟩, ⟨p0, by omega⟩, b1, b2, b3⟩
/-- half chords: what is subtracted stays in range -/
theorem hf_sq (r y : Int) (h : hfB r y = true) : (0 ≤ r * r ∧ r * r ≤ 10000000000) ∧ 0 ≤ y * y ∧ y * y ≤ 10000000000 := by
  obtain ⟨⟨h0, h1⟩, y0, y1⟩ := (hfB_iff r y).1 h
  have e1 := sq_mono h0 h1
  have hy : 0 ≤ y * y ∧ y * y ≤ 10000000000 := by
    by_cases hy : 0 ≤ y
    · exact ⟨Int.mul_nonneg hy hy, by have := sq_mono hy y1; omega⟩
    · rw [← Int.neg_mul_neg]
      exact ⟨Int.mul_nonneg (by omega) (by omega), by have := sq_mono (show 0 ≤ -y by omega) (show -y ≤ 100000 by omega); omega⟩
  exact ⟨⟨Int.mul_nonneg h0 h0, by omega⟩, hy⟩
theorem hf_neg (r y : Int) : hfB r (-y) = hfB r y ∧ hfL r (-y) = hfL r y ∧ hfH r (-y) = hfH r y := by
  have e : hfB r (-y) = hfB r y := by
    rw [Bool.eq_iff_iff, hfB_iff, hfB_iff]; omega
  unfold hfL hfH
  rw [e, (hc_neg r y).1, (hc_neg r y).2]
  exact ⟨rfl, rfl, rfl⟩
/-- RootGrows -/
theorem hf_wider (r s y : Int) (h : r ≤ s) (h1 : hfB r y = true) (h2 : hfB s y = true) : hfL r y ≤ hfL s y ∧ hfH r y ≤ hfH s y := by
  unfold hfL hfH
  rw [if_pos h1, if_pos h1, if_pos h2, if_pos h2]
  exact hc_wider r s y ((hfB_iff _ _).1 h1).1.1 h
theorem hf_further (r y z : Int) (h : max y (-y) ≤ z) (h1 : hfB r y = true) (h2 : hfB r z = true) : hfL r z ≤ hfL r y ∧ hfH r z ≤ hfH r y := by
  unfold hfL hfH
  rw [if_pos h1, if_pos h1, if_pos h2, if_pos h2, (hc_abs r y).1, (hc_abs r y).2]
  exact hc_further r (max y (-y)) z ((hfB_iff _ _).1 h1).1.1 (by omega) h
theorem hf_bd (r y : Int) (h : hfB r y = true) : 0 ≤ hfL r y ∧ hfL r y ≤ hfH r y ∧ hfH r y ≤ hfL r y + 1 ∧ hfH r y ≤ r := by
  unfold hfL hfH
  rw [if_pos h, if_pos h]
  exact hc_bd r y ((hfB_iff _ _).1 h).1.1
theorem hf_zero (r : Int) (h : 0 ≤ r ∧ r ≤ 100000) : hfB r 0 = true ∧ hfL r 0 = r ∧ hfH r 0 = r := by
  have hb : hfB r 0 = true := (hfB_iff r 0).2 ⟨h, by omega, by omega⟩
  unfold hfL hfH
  rw [if_pos hb, if_pos hb, (hc_zero r h.1).1, (hc_zero r h.1).2]
  exact ⟨hb, rfl, rfl⟩
/-- RootCircle -/
theorem hf_circle (r y : Int) (h : hfB r y = true) (hy : ¬ (r < y ∨ y < -r)) : hfL r y * hfL r y + y * y ≤ r * r ∧ r * r ≤ hfH r y * hfH r y + y * y := by
  unfold hfL hfH
  rw [if_pos h, if_pos h]
  exact hc_circle r y hy
theorem hf_out (r y : Int) (hy : r < y ∨ y < -r) : hfL r y = 0 ∧ hfH r y = 0 := by
  unfold hfL hfH hcL hcH
  rw [if_pos hy, if_pos hy]
  exact ⟨by split <;> rfl, by split <;> rfl⟩
theorem hf_mul (r y : Int) (h : hfB r y = true) : (0 ≤ hfL r y * hfL r y ∧ hfL r y * hfL r y ≤ 10000000000) ∧ 0 ≤ hfH r y * hfH r y ∧ hfH r y * hfH r y ≤ 10000000000 := by
  have b := hf_bd r y h
  have hr := ((hfB_iff r y).1 h).1
  have e1 := sq_mono b.1 (show hfL r y ≤ 100000 by omega)
  have e2 := sq_mono (show 0 ≤ hfH r y by omega) (show hfH r y ≤ 100000 by omega)
  exact ⟨⟨Int.mul_nonneg b.1 b.1, by omega⟩, Int.mul_nonneg (by omega) (by omega), by omega⟩
end Go.Proofs.Ytlofblpfohnooaa
