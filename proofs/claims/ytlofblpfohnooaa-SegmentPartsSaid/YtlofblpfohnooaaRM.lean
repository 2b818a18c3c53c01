/- Plain facts on square roots. No program stands in this text. -/
import Derived.Lib.Hide
namespace Go.Proofs.Ytlofblpfohnooaa

theorem sq_mono {a b : Int} (h0 : 0 ≤ a) (h : a ≤ b) : a * a ≤ b * b := Int.mul_le_mul h h h0 (Int.le_trans h0 h)
theorem sq_lt {a b : Int} (h0 : 0 ≤ b) (h : a * a < b * b) : a < b := by
  apply Classical.byContradiction
  intro hn
  have := sq_mono h0 (show b ≤ a by omega)
  omega
theorem sq_le {a b : Int} (h0 : 0 ≤ b) (h : a * a ≤ b * b) : a ≤ b := by
  apply Classical.byContradiction
  intro hn
  have h1 : b + 1 ≤ a := by omega
  have h2 := sq_mono (show 0 ≤ b + 1 by omega) h1
  have h3 : (b + 1) * (b + 1) = b * b + b + b + 1 := by rw [Int.add_mul, Int.mul_add]; omega
  omega
theorem rt_ex (n : Nat) : ∃ r : Nat, (r : Int) * r ≤ n ∧ (n : Int) < (r + 1) * (r + 1) := by
  induction n with
  | zero => exact ⟨0, by decide, by decide⟩
  | succ n ih =>
    obtain ⟨r, h1, h2⟩ := ih
    by_cases h : (n : Int) + 1 < (r + 1) * (r + 1)
    · exact ⟨r, by omega, by push_cast; exact h⟩
    · refine ⟨r + 1, by push_cast; omega, ?_⟩
      push_cast
      have h3 : ((r : Int) + 1 + 1) * (r + 1 + 1) = (r + 1) * (r + 1) + (r + 1) + (r + 1) + 1 := by
        rw [Int.add_mul ((r : Int) + 1), Int.mul_add ((r : Int) + 1)]; omega
      rw [h3]; omega
/-- the root of a number that is not negative, rounded down -/
noncomputable def rt (n : Int) : Int := ((rt_ex n.toNat).choose : Int)
theorem rt_spec (n : Int) (h : 0 ≤ n) : 0 ≤ rt n ∧ rt n * rt n ≤ n ∧ n < (rt n + 1) * (rt n + 1) := by
  have h2 : rt n * rt n ≤ (n.toNat : Int) ∧ (n.toNat : Int) < (rt n + 1) * (rt n + 1) := (rt_ex n.toNat).choose_spec
  have e : (n.toNat : Int) = n := Int.toNat_of_nonneg h
  exact ⟨by unfold rt; omega, Int.le_trans h2.1 (by omega), Int.lt_of_le_of_lt (by omega) h2.2⟩
theorem rt_of {n r : Int} (h0 : 0 ≤ r) (h1 : r * r ≤ n) (h2 : n < (r + 1) * (r + 1)) : rt n = r := by
  have hn : 0 ≤ n := Int.le_trans (Int.mul_nonneg h0 h0) h1
  obtain ⟨g0, g1, g2⟩ := rt_spec n hn
  have a := sq_lt (show 0 ≤ r + 1 by omega) (show rt n * rt n < (r + 1) * (r + 1) by omega)
  have b := sq_lt (show 0 ≤ rt n + 1 by omega) (show r * r < (rt n + 1) * (rt n + 1) by omega)
  omega
theorem rt_mono {m n : Int} (h0 : 0 ≤ m) (h : m ≤ n) : rt m ≤ rt n := by
  obtain ⟨a0, a1, a2⟩ := rt_spec m h0
  obtain ⟨b0, b1, b2⟩ := rt_spec n (by omega)
  have := sq_lt (show 0 ≤ rt n + 1 by omega) (show rt m * rt m < (rt n + 1) * (rt n + 1) by omega)
  omega
theorem rt_sq (k : Int) (h : 0 ≤ k) : rt (k * k) = k := by
  refine rt_of h (Int.le_refl _) ?_
  have : (k + 1) * (k + 1) = k * k + k + k + 1 := by rw [Int.add_mul, Int.mul_add]; omega
  omega
theorem rt_le {n b : Int} (h0 : 0 ≤ n) (hb : 0 ≤ b) (h : n ≤ b * b) : rt n ≤ b := by
  have := rt_mono h0 h
  rw [rt_sq b hb] at this
  exact this
/-- the root, rounded up -/
noncomputable def ce (n : Int) : Int := if rt n * rt n < n then rt n + 1 else rt n
theorem ce_spec (n : Int) (h : 0 ≤ n) : rt n ≤ ce n ∧ ce n ≤ rt n + 1 ∧ n ≤ ce n * ce n ∧ (ce n = rt n ↔ rt n * rt n = n) := by
  obtain ⟨a0, a1, a2⟩ := rt_spec n h
  unfold ce
  by_cases hl : rt n * rt n < n
  · rw [if_pos hl]; exact ⟨by omega, by omega, by omega, by omega, by omega⟩
  · rw [if_neg hl]; exact ⟨by omega, by omega, by omega, by omega, by omega⟩
theorem ce_le {n c : Int} (h : 0 ≤ n) (h0 : 0 ≤ c) (hc : n ≤ c * c) : ce n ≤ c := by
  obtain ⟨a0, a1, a2⟩ := rt_spec n h
  have h1 := rt_le h h0 hc
  unfold ce
  split
  · rename_i hl
    apply Classical.byContradiction
    intro hn
    have : rt n = c := by omega
    rw [this] at hl
    omega
  · exact h1
theorem ce_mono {m n : Int} (h0 : 0 ≤ m) (h : m ≤ n) : ce m ≤ ce n := by
  obtain ⟨b0, b1, b2, _⟩ := ce_spec n (by omega)
  have := (rt_spec n (by omega)).1
  exact ce_le h0 (by omega) (by omega)
theorem ce_sq (k : Int) (h : 0 ≤ k) : ce (k * k) = k := by
  unfold ce
  rw [rt_sq k h, if_neg (by omega)]
theorem rt_fold (n k : Int) (h : 0 ≤ n) (hk : 0 ≤ k) : k * rt n ≤ rt (n * k * k) ∧ rt (n * k * k) ≤ k * ce n := by
  obtain ⟨a0, a1, a2⟩ := rt_spec n h
  obtain ⟨b0, b1, b2, _⟩ := ce_spec n h
  have hkk : 0 ≤ k * k := Int.mul_nonneg hk hk
  have e : ∀ x : Int, k * x * (k * x) = x * x * (k * k) := fun x => by
    rw [Int.mul_comm k x, Int.mul_assoc, Int.mul_assoc, ← Int.mul_assoc k x k, Int.mul_comm k x, Int.mul_assoc]
  have hn : 0 ≤ n * k * k := Int.mul_nonneg (Int.mul_nonneg h hk) hk
  constructor
  · have h1 : k * rt n * (k * rt n) ≤ n * k * k := by
      rw [e, Int.mul_assoc n]
      exact Int.mul_le_mul_of_nonneg_right a1 hkk
    have := rt_mono (Int.mul_nonneg (Int.mul_nonneg hk a0) (Int.mul_nonneg hk a0)) h1
    rw [rt_sq _ (Int.mul_nonneg hk a0)] at this
    exact this
  · refine rt_le hn (Int.mul_nonneg hk (by omega)) ?_
    rw [e, Int.mul_assoc n]
    exact Int.mul_le_mul_of_nonneg_right b2 hkk

/-! ### half chords -/
noncomputable def hcL (r y : Int) : Int := if r < y ∨ y < -r then 0 else rt (r * r - y * y)
noncomputable def hcH (r y : Int) : Int := if r < y ∨ y < -r then 0 else ce (r * r - y * y)
theorem sq_abs {r y : Int} (h : ¬ (r < y ∨ y < -r)) : 0 ≤ r * r - y * y := by
  by_cases h0 : 0 ≤ y
  · have := sq_mono h0 (show y ≤ r by omega); omega
  · have := sq_mono (show 0 ≤ -y by omega) (show -y ≤ r by omega)
    rw [Int.neg_mul_neg] at this; omega
theorem hc_bd (r y : Int) (hr : 0 ≤ r) : 0 ≤ hcL r y ∧ hcL r y ≤ hcH r y ∧ hcH r y ≤ hcL r y + 1 ∧ hcH r y ≤ r := by
  unfold hcL hcH
  by_cases h : r < y ∨ y < -r
  · rw [if_pos h, if_pos h]; omega
  · rw [if_neg h, if_neg h]
    have h0 := sq_abs h
    obtain ⟨a0, a1, a2⟩ := rt_spec _ h0
    obtain ⟨b0, b1, b2, _⟩ := ce_spec _ h0
    refine ⟨a0, b0, b1, ce_le h0 hr ?_⟩
    have : 0 ≤ y * y := by
      by_cases hy : 0 ≤ y
      · exact Int.mul_nonneg hy hy
      · rw [← Int.neg_mul_neg]; exact Int.mul_nonneg (by omega) (by omega)
    omega
theorem hc_neg (r y : Int) : hcL r (-y) = hcL r y ∧ hcH r (-y) = hcH r y := by
  unfold hcL hcH
  rw [Int.neg_mul_neg]
  by_cases h : r < y ∨ y < -r
  · rw [if_pos h, if_pos (by omega), if_pos h, if_pos (by omega)]; exact ⟨rfl, rfl⟩
  · rw [if_neg h, if_neg (by omega), if_neg h, if_neg (by omega)]; exact ⟨rfl, rfl⟩
theorem hc_zero (r : Int) (h : 0 ≤ r) : hcL r 0 = r ∧ hcH r 0 = r := by
  unfold hcL hcH
  rw [if_neg (by omega), if_neg (by omega), Int.mul_zero, Int.sub_zero, rt_sq r h, ce_sq r h]
  exact ⟨rfl, rfl⟩
theorem hc_wider (r s y : Int) (h0 : 0 ≤ r) (h : r ≤ s) : hcL r y ≤ hcL s y ∧ hcH r y ≤ hcH s y := by
  have hs := hc_bd s y (by omega)
  by_cases g : r < y ∨ y < -r
  · have e1 : hcL r y = 0 := by unfold hcL; rw [if_pos g]
    have e2 : hcH r y = 0 := by unfold hcH; rw [if_pos g]
    rw [e1, e2]; omega
  · have g2 : ¬ (s < y ∨ y < -s) := by omega
    have q := sq_abs g
    have m := sq_mono h0 h
    unfold hcL hcH
    rw [if_neg g, if_neg g, if_neg g2, if_neg g2]
    exact ⟨rt_mono q (by omega), ce_mono q (by omega)⟩
theorem hc_further (r x y : Int) (hr : 0 ≤ r) (h0 : 0 ≤ x) (h : x ≤ y) : hcL r y ≤ hcL r x ∧ hcH r y ≤ hcH r x := by
  have hs := hc_bd r x hr
  by_cases g : r < y ∨ y < -r
  · have e1 : hcL r y = 0 := by unfold hcL; rw [if_pos g]
    have e2 : hcH r y = 0 := by unfold hcH; rw [if_pos g]
    rw [e1, e2]; omega
  · have g2 : ¬ (r < x ∨ x < -r) := by omega
    have q := sq_abs g
    have m := sq_mono h0 h
    unfold hcL hcH
    rw [if_neg g, if_neg g, if_neg g2, if_neg g2]
    exact ⟨rt_mono q (by omega), ce_mono q (by omega)⟩
theorem hc_abs (r y : Int) : hcL r y = hcL r (max y (-y)) ∧ hcH r y = hcH r (max y (-y)) := by
  by_cases h : 0 ≤ y
  · rw [show max y (-y) = y by omega]; exact ⟨rfl, rfl⟩
  · rw [show max y (-y) = -y by omega]
    have := hc_neg r y
    exact ⟨this.1.symm, this.2.symm⟩
theorem hc_circle (r y : Int) (h : ¬ (r < y ∨ y < -r)) : hcL r y * hcL r y + y * y ≤ r * r ∧ r * r ≤ hcH r y * hcH r y + y * y := by
  have q := sq_abs h
  obtain ⟨a0, a1, a2⟩ := rt_spec _ q
  obtain ⟨b0, b1, b2, _⟩ := ce_spec _ q
  unfold hcL hcH
  rw [if_neg h, if_neg h]
  omega
end Go.Proofs.Ytlofblpfohnooaa
