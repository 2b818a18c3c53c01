/- Plain facts: what the potentials of both polygons come to. No program stands in this text. (Written by m/sq.py.) -/
import Derived.Test.YtlofblpfohnooaaSP
namespace Go.Proofs.Ytlofblpfohnooaa

/-- twice the area under a line up to k -/
def ln (A B r k : Int) : Int := 2 * A * (r * k) - B * (k * k)
theorem ln_step (A B r k : Int) : ln A B r (k + 1) - ln A B r k = (A * r - B * k) + (A * r - B * (k + 1)) := by
  unfold ln; grind
theorem tz_up {G : Int → Int} {A B r : Int} (h : ∀ k, G k ≤ A * r - B * k) (a b : Nat) (hab : a ≤ b) : tz G b - tz G a ≤ ln A B r b - ln A B r a := by
  obtain ⟨n, rfl⟩ : ∃ n, b = a + n := ⟨b - a, by omega⟩
  clear hab
  induction n with
  | zero => simp
  | succ n ih =>
    rw [tz_step, show ((a + (n + 1) : Nat) : Int) = ((a + n : Nat) : Int) + 1 by omega]
    have s := ln_step A B r ((a + n : Nat) : Int)
    have h1 := h ((a + n : Nat) : Int)
    have h2 := h (((a + n : Nat) : Int) + 1)
    rw [Int.natCast_add] at *
    omega
theorem tz_low {G : Int → Int} {A B r : Int} (a b : Nat) (hab : a ≤ b) (h : ∀ k : Int, a ≤ k → k ≤ b → A * r - B * k ≤ G k) : ln A B r b - ln A B r a ≤ tz G b - tz G a := by
  obtain ⟨n, rfl⟩ : ∃ n, b = a + n := ⟨b - a, by omega⟩
  clear hab
  induction n with
  | zero => simp
  | succ n ih =>
    have i := ih (fun k h1 h2 => h k h1 (by omega))
    rw [tz_step, show ((a + (n + 1) : Nat) : Int) = ((a + n : Nat) : Int) + 1 by omega]
    have s := ln_step A B r ((a + n : Nat) : Int)
    have h1 := h ((a + n : Nat) : Int) (by omega) (by omega)
    have h2 := h (((a + n : Nat) : Int) + 1) (by omega) (by omega)
    rw [Int.natCast_add] at *
    omega
/-- the same, where the last one may miss by e -/
theorem tz_low1 {G : Int → Int} {A B r e : Int} (a b : Nat) (hab : a ≤ b) (he : 0 ≤ e) (h : ∀ k : Int, a ≤ k → k < b → A * r - B * k ≤ G k) (h1 : A * r - B * b ≤ G b + e) : ln A B r b - ln A B r a - e ≤ tz G b - tz G a := by
  by_cases hq : a = b
  · subst hq; omega
  · obtain ⟨c, rfl⟩ : ∃ c, b = c + 1 := ⟨b - 1, by omega⟩
    have i := tz_low (G := G) (A := A) (B := B) (r := r) a c (by omega) (fun k g1 g2 => h k g1 (by omega))
    have s := ln_step A B r (c : Int)
    have h2 := h c (by omega) (by omega)
    have t : tz G (c + 1) = tz G c + (G c + G ((c : Int) + 1)) := rfl
    rw [t]
    rw [Int.natCast_add, Int.natCast_one] at *
    omega
theorem near_down (c r k : Int) (h1 : 100 * k ≤ c * r) (h2 : c * r < 100 * k + 100) : 10000 * (k * k) - 200 * c * (r * k) + c * c * (r * r) ≤ 10000 := by
  have e : 10000 * (k * k) - 200 * c * (r * k) + c * c * (r * r) = (c * r - 100 * k) * (c * r - 100 * k) := by grind
  rw [e]
  have := sq_mono (a := c * r - 100 * k) (b := 100) (by omega) (by omega)
  omega
theorem near_any (c r k : Int) : 0 ≤ 10000 * (k * k) - 200 * c * (r * k) + c * c * (r * r) := by
  have e : 10000 * (k * k) - 200 * c * (r * k) + c * c * (r * r) = (c * r - 100 * k) * (c * r - 100 * k) := by grind
  rw [e]
  by_cases hz : 0 ≤ c * r - 100 * k
  · exact Int.mul_nonneg hz hz
  · rw [← Int.neg_mul_neg]; exact Int.mul_nonneg (by omega) (by omega)

theorem tzU (R : Nat) (h : 96 ≤ R) : tz (gU R) R ≤ 158334 * ((R : Int) * R) + 350000 := by
  have L := fun k => gU_le R k
  have q0 : 0 ≤ (R : Int) * R := Int.mul_nonneg (by omega) (by omega)
  obtain ⟨k0, e0⟩ : ∃ k : Nat, k = 10 * R / 100 := ⟨_, rfl⟩
  have n0 := near_down 10 R k0 (by omega) (by omega)
  obtain ⟨k1, e1⟩ : ∃ k : Nat, k = 33 * R / 100 := ⟨_, rfl⟩
  have n1 := near_down 33 R k1 (by omega) (by omega)
  obtain ⟨k2, e2⟩ : ∃ k : Nat, k = 57 * R / 100 := ⟨_, rfl⟩
  have n2 := near_down 57 R k2 (by omega) (by omega)
  obtain ⟨k3, e3⟩ : ∃ k : Nat, k = 78 * R / 100 := ⟨_, rfl⟩
  have n3 := near_down 78 R k3 (by omega) (by omega)
  obtain ⟨k4, e4⟩ : ∃ k : Nat, k = 92 * R / 100 := ⟨_, rfl⟩
  have n4 := near_down 92 R k4 (by omega) (by omega)
  have t0 := tz_up (G := gU R) (A := 100000) (B := 0) (r := R) (fun k => (L k).1) 0 k0 (by omega)
  have t1 := tz_up (G := gU R) (A := 102000) (B := 20000) (r := R) (fun k => (L k).2.1) k0 k1 (by omega)
  have t2 := tz_up (G := gU R) (A := 111900) (B := 50000) (r := R) (fun k => (L k).2.2.1) k1 k2 (by omega)
  have t3 := tz_up (G := gU R) (A := 134700) (B := 90000) (r := R) (fun k => (L k).2.2.2.1) k2 k3 (by omega)
  have t4 := tz_up (G := gU R) (A := 189300) (B := 160000) (r := R) (fun k => (L k).2.2.2.2.1) k3 k4 (by omega)
  have t5 := tz_up (G := gU R) (A := 364100) (B := 350000) (r := R) (fun k => (L k).2.2.2.2.2) k4 R (by omega)
  simp only [ln] at t0 t1 t2 t3 t4 t5
  simp only [tz, Int.natCast_zero, Int.mul_zero, Int.sub_zero] at t0
  omega
theorem phi_total (R : Nat) (h : 96 ≤ R) : 226 * phiU (gU R) ((R : Int) / 32) R ≤ 35500000 * ((R : Int) * R) := by
  have t := tzU R h
  generalize hd : (R : Int) / 32 = d
  have d1 : 32 * d ≤ R := by omega
  have d2 : (R : Int) ≤ 32 * d + 31 := by omega
  have u1 : gU R R ≤ 14100 * R := by have := (gU_le R R).2.2.2.2.2; omega
  have u2 : 100000 * (R : Int) ≤ gU R d := gU_ge R d _ ⟨by omega, by omega, by omega, by omega, by omega, by omega⟩
  have m1 := Int.mul_le_mul_of_nonneg_left u1 (show 0 ≤ d by omega)
  have m2 := Int.mul_le_mul_of_nonneg_left u2 (show 0 ≤ d by omega)
  rw [Int.mul_left_comm] at m1 m2
  have m3 := Int.mul_le_mul_of_nonneg_right d2 (show (0 : Int) ≤ R by omega)
  rw [Int.add_mul, Int.mul_assoc] at m3
  have m4 := Int.mul_le_mul_of_nonneg_right (show (96 : Int) ≤ R by omega) (show (0 : Int) ≤ R by omega)
  unfold phiU
  rw [Int.toNat_natCast]
  generalize tz (gU R) R = T at *
  generalize d * gU R R = X at *
  generalize d * gU R d = Y at *
  generalize d * (R : Int) = Z at *
  generalize (R : Int) * R = Q at *
  omega

theorem gL_line (r k : Int) (hr : 96 ≤ r) : (0 * r ≤ 100 * k → 100 * k ≤ 22 * r → 100000 * r - 11200 * k ≤ gL r k) ∧ (22 * r ≤ 100 * k → 100 * k ≤ 42 * r → 105016 * r - 34000 * k ≤ gL r k) ∧ (42 * r ≤ 100 * k → 100 * k ≤ 60 * r → 115810 * r - 59700 * k ≤ gL r k) ∧ (60 * r ≤ 100 * k → 100 * k ≤ 75 * r → 135430 * r - 92400 * k ≤ gL r k) ∧ (75 * r ≤ 100 * k → 100 * k ≤ 87 * r → 171355 * r - 140300 * k ≤ gL r k) ∧ (87 * r ≤ 100 * k → 100 * k ≤ 95 * r → 245827 * r - 225900 * k ≤ gL r k) ∧ (95 * r ≤ 100 * k → 100 * k ≤ 99 * r → 437727 * r - 427900 * k ≤ gL r k) ∧ (99 * r ≤ 100 * k → 100 * k ≤ 100 * r → 1410600 * r - 1410600 * k ≤ gL r k) := by
  refine ⟨?_, ?_, ?_, ?_, ?_, ?_, ?_, ?_⟩ <;> intro h1 h2 <;> exact gL_ge r k _ ⟨by omega, by omega, by omega, by omega, by omega, by omega, by omega, by omega, by omega⟩
theorem gL_miss (r k : Int) (hr : 96 ≤ r) : (22 * r ≤ 100 * k → 100 * k < 22 * r + 100 → 100000 * r - 11200 * k ≤ gL r k + 22800) ∧ (42 * r ≤ 100 * k → 100 * k < 42 * r + 100 → 105016 * r - 34000 * k ≤ gL r k + 25700) ∧ (60 * r ≤ 100 * k → 100 * k < 60 * r + 100 → 115810 * r - 59700 * k ≤ gL r k + 32700) ∧ (75 * r ≤ 100 * k → 100 * k < 75 * r + 100 → 135430 * r - 92400 * k ≤ gL r k + 47900) ∧ (87 * r ≤ 100 * k → 100 * k < 87 * r + 100 → 171355 * r - 140300 * k ≤ gL r k + 85600) ∧ (95 * r ≤ 100 * k → 100 * k < 95 * r + 100 → 245827 * r - 225900 * k ≤ gL r k + 202000) ∧ (99 * r ≤ 100 * k → 100 * k < 99 * r + 100 → 437727 * r - 427900 * k ≤ gL r k + 982700) := by
  refine ⟨?_, ?_, ?_, ?_, ?_, ?_, ?_⟩ <;> intro h1 h2 <;> (refine Int.le_add_of_sub_right_le (gL_ge r k _ ⟨by omega, by omega, by omega, by omega, by omega, by omega, by omega, by omega, by omega⟩))
theorem tzL (R : Nat) (h : 96 ≤ R) : 156006 * ((R : Int) * R) - 1410600 ≤ tz (gL R) R := by
  have L := fun k => gL_line R k (by omega)
  have q0 : 0 ≤ (R : Int) * R := Int.mul_nonneg (by omega) (by omega)
  have M := fun k => gL_miss R k (by omega)
  obtain ⟨k0, e0⟩ : ∃ k : Nat, k = (22 * R + 99) / 100 := ⟨_, rfl⟩
  have n0 := near_any 22 R k0
  obtain ⟨k1, e1⟩ : ∃ k : Nat, k = (42 * R + 99) / 100 := ⟨_, rfl⟩
  have n1 := near_any 42 R k1
  obtain ⟨k2, e2⟩ : ∃ k : Nat, k = (60 * R + 99) / 100 := ⟨_, rfl⟩
  have n2 := near_any 60 R k2
  obtain ⟨k3, e3⟩ : ∃ k : Nat, k = (75 * R + 99) / 100 := ⟨_, rfl⟩
  have n3 := near_any 75 R k3
  obtain ⟨k4, e4⟩ : ∃ k : Nat, k = (87 * R + 99) / 100 := ⟨_, rfl⟩
  have n4 := near_any 87 R k4
  obtain ⟨k5, e5⟩ : ∃ k : Nat, k = (95 * R + 99) / 100 := ⟨_, rfl⟩
  have n5 := near_any 95 R k5
  obtain ⟨k6, e6⟩ : ∃ k : Nat, k = (99 * R + 99) / 100 := ⟨_, rfl⟩
  have n6 := near_any 99 R k6
  have t0 := tz_low1 (G := gL R) (A := 100000) (B := 11200) (r := R) (e := 22800) 0 k0 (by omega) (by omega) (fun k g1 g2 => (L k).1 (by omega) (by omega)) ((M k0).1 (by omega) (by omega))
  have t1 := tz_low1 (G := gL R) (A := 105016) (B := 34000) (r := R) (e := 25700) k0 k1 (by omega) (by omega) (fun k g1 g2 => (L k).2.1 (by omega) (by omega)) ((M k1).2.1 (by omega) (by omega))
  have t2 := tz_low1 (G := gL R) (A := 115810) (B := 59700) (r := R) (e := 32700) k1 k2 (by omega) (by omega) (fun k g1 g2 => (L k).2.2.1 (by omega) (by omega)) ((M k2).2.2.1 (by omega) (by omega))
  have t3 := tz_low1 (G := gL R) (A := 135430) (B := 92400) (r := R) (e := 47900) k2 k3 (by omega) (by omega) (fun k g1 g2 => (L k).2.2.2.1 (by omega) (by omega)) ((M k3).2.2.2.1 (by omega) (by omega))
  have t4 := tz_low1 (G := gL R) (A := 171355) (B := 140300) (r := R) (e := 85600) k3 k4 (by omega) (by omega) (fun k g1 g2 => (L k).2.2.2.2.1 (by omega) (by omega)) ((M k4).2.2.2.2.1 (by omega) (by omega))
  have t5 := tz_low1 (G := gL R) (A := 245827) (B := 225900) (r := R) (e := 202000) k4 k5 (by omega) (by omega) (fun k g1 g2 => (L k).2.2.2.2.2.1 (by omega) (by omega)) ((M k5).2.2.2.2.2.1 (by omega) (by omega))
  have t6 := tz_low1 (G := gL R) (A := 437727) (B := 427900) (r := R) (e := 982700) k5 k6 (by omega) (by omega) (fun k g1 g2 => (L k).2.2.2.2.2.2.1 (by omega) (by omega)) ((M k6).2.2.2.2.2.2 (by omega) (by omega))
  have t7 := tz_low (G := gL R) (A := 1410600) (B := 1410600) (r := R) k6 R (by omega) (fun k g1 g2 => (L k).2.2.2.2.2.2.2 (by omega) (by omega))
  simp only [ln] at t0 t1 t2 t3 t4 t5 t6 t7
  simp only [tz, Int.natCast_zero, Int.mul_zero, Int.sub_zero] at t0
  omega
theorem psi_total (R : Nat) (h : 96 ≤ R) : 33300000 * ((R : Int) * R) ≤ 212 * psiL (gL R) ((R : Int) / 32) (100000 * R) R := by
  have t := tzL R h
  generalize hd : (R : Int) / 32 = d
  have d1 : 32 * d ≤ R := by omega
  have d2 : (R : Int) ≤ 32 * d + 31 := by omega
  have d0 : 0 ≤ d := by omega
  have u1 : gL R (R - 2 * d) ≤ 245827 * R - 225900 * (R - 2 * d) := (gL_le R (R - 2 * d)).2.2.2.2.2.2.1
  have u2 : 65900 * (R : Int) ≤ 100000 * R - gL R (R - 2 * d) := by omega
  have m2 := Int.mul_le_mul_of_nonneg_left u2 d0
  rw [Int.mul_left_comm, Int.mul_sub] at m2
  have m3 := Int.mul_le_mul_of_nonneg_right d2 (show (0 : Int) ≤ R by omega)
  rw [Int.add_mul, Int.mul_assoc] at m3
  have m4 := Int.mul_le_mul_of_nonneg_right (show (96 : Int) ≤ R by omega) (show (0 : Int) ≤ R by omega)
  unfold psiL
  rw [Int.toNat_natCast]
  generalize tz (gL R) R = T at *
  generalize d * gL R (R - 2 * d) = X at *
  generalize d * (100000 * (R : Int)) = Y at *
  generalize d * (R : Int) = Z at *
  generalize (R : Int) * R = Q at *
  omega
end Go.Proofs.Ytlofblpfohnooaa

