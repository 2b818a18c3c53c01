/- Plain facts: the potentials of both polygons. No program stands in this text. -/
import Derived.Test.YtlofblpfohnooaaSG
namespace Go.Proofs.Ytlofblpfohnooaa

theorem Conc.trapI {G : Int → Int} (h : Conc G) (a b : Int) (h0 : 0 ≤ a) (hab : a ≤ b) : (b - a) * (G a + G b) ≤ tz G b.toNat - tz G a.toNat := by
  obtain ⟨A, rfl⟩ := Int.eq_ofNat_of_zero_le h0
  obtain ⟨n, hn⟩ := Int.eq_ofNat_of_zero_le (show 0 ≤ b - A by omega)
  obtain rfl : b = ((A + n : Nat) : Int) := by omega
  have := h.trap A n
  rw [hn, Int.toNat_natCast, Int.toNat_natCast, Int.natCast_add]
  exact this
theorem Conc.tangI {G : Int → Int} (h : Conc G) (a b : Int) (h0 : 0 ≤ a) (hab : a ≤ b) : tz G b.toNat - tz G a.toNat + (b - a) * (b - a) * (G a - G (a + 1)) ≤ 2 * ((b - a) * G a) := by
  obtain ⟨A, rfl⟩ := Int.eq_ofNat_of_zero_le h0
  obtain ⟨n, hn⟩ := Int.eq_ofNat_of_zero_le (show 0 ≤ b - A by omega)
  obtain rfl : b = ((A + n : Nat) : Int) := by omega
  have := h.tang A n
  rw [hn, Int.toNat_natCast, Int.toNat_natCast]
  exact this
theorem Conc.dropI {G : Int → Int} (h : Conc G) (a b c : Int) (hab : a ≤ b) (hbc : b ≤ c) : G a - G b ≤ (b - a) * (G c - G (c + 1)) := by
  obtain ⟨n, hn⟩ := Int.eq_ofNat_of_zero_le (show 0 ≤ b - a by omega)
  have := h.drop_le a n
  have e : a + (n : Int) = b := by omega
  rw [e] at this
  have s := h.slope' b c hbc
  have := Int.mul_le_mul_of_nonneg_left s (show 0 ≤ b - a by omega)
  rw [← hn] at *
  omega

/-! ### below -/
def phiU (G : Int → Int) (d y : Int) : Int := tz G y.toNat + d * G y - d * G d
theorem lowP_of {V r d M : Int} {G : Int → Int} (h : Conc G) (hV : 0 ≤ V) (hr : 0 ≤ r) (hd : 0 ≤ d) (hx : ∀ y, 0 ≤ y → y ≤ r → V * hcL r y ≤ G y) (hM : ∀ k, G k - G (k + 1) ≤ M) (hMd : d * M ≤ 2 * G r) : LowP V r d (phiU G d) := by
  have pull : ∀ w y : Int, V * (2 * (w * hcL r y)) = 2 * (w * (V * hcL r y)) := fun w y => by grind
  have dist : ∀ w x y : Int, w * (x + y) = w * x + w * y := fun w x y => Int.mul_add w x y
  have mono1 : ∀ a, 0 ≤ a → a + 1 ≤ r → phiU G d a ≤ phiU G d (a + 1) := by
    intro a a0 ar
    unfold phiU
    have t : tz G (a + 1).toNat = tz G a.toNat + (G a + G (a + 1)) := by
      rw [show (a + 1).toNat = a.toNat + 1 by omega]
      show tz G a.toNat + (G (a.toNat : Int) + G ((a.toNat : Int) + 1)) = _
      rw [show (a.toNat : Int) = a by omega]
    have g1 := h.mono a r (by omega)
    have g2 := h.mono (a + 1) r ar
    have m := Int.mul_le_mul_of_nonneg_left (hM a) hd
    rw [Int.mul_sub] at m
    omega
  have z0 : 0 ≤ tz G 0 := by simp [tz]
  refine ⟨fun a b a0 ab br hw => ?_, fun b b0 br => ?_, fun a b a0 ab br => ?_⟩
  · rw [pull]
    have t := h.trapI a b a0 ab
    have x := wid_mono (w := b - a) (by omega) (hx b (by omega) br)
    have g := h.mono a b ab
    have s := Int.mul_le_mul_of_nonneg_right hw (show 0 ≤ G a - G b by omega)
    rw [Int.mul_sub, Int.mul_sub] at s
    rw [dist] at t
    unfold phiU
    omega
  · rw [pull]
    have t := h.trapI 0 b (by omega) b0
    rw [Int.sub_zero, dist] at t
    have x := wid_mono (w := b) b0 (hx b b0 br)
    have g := h.mono 0 b b0
    have s0 := wid_mono (w := b) b0 g
    simp only [Int.toNat_zero, tz, Int.sub_zero] at t
    unfold phiU
    by_cases hb : d ≤ b
    · have s := Int.mul_le_mul_of_nonneg_right hb (show 0 ≤ G 0 - G b by omega)
      rw [Int.mul_sub, Int.mul_sub] at s
      have g2 := Int.mul_le_mul_of_nonneg_left (h.mono 0 d hd) hd
      omega
    · have g2 := Int.mul_le_mul_of_nonneg_left (h.mono b d (by omega)) hd
      omega
  · obtain ⟨n, hn⟩ := Int.eq_ofNat_of_zero_le (show 0 ≤ b - a by omega)
    obtain rfl : b = a + n := by omega
    clear hn ab
    induction n with
    | zero => simp
    | succ n ih =>
      have := ih (by omega)
      have m := mono1 (a + n) (by omega) (by omega)
      rw [show a + ((n + 1 : Nat) : Int) = a + n + 1 by omega]
      omega

/-! ### above -/
def psiL (G : Int → Int) (d C y : Int) : Int := tz G y.toNat + d * C - d * G (y - 2 * d)
theorem high_step {r d : Int} {G : Int → Int} (h : Conc G) (hd : 1 ≤ d) (hz : 0 ≤ G r) : ∀ (n : Nat) (a w : Int), 0 ≤ a → a ≤ r → d ≤ w → (min (a + w) r - a).toNat ≤ n →
    tz G (min (a + w) r).toNat - tz G a.toNat + d * (G (a - 2 * d) - G (min (a + w) r - 2 * d)) ≤ 2 * (w * G a) := by
  intro n
  induction n with
  | zero =>
    intro a w a0 ar hw hn
    obtain he : min (a + w) r = a := by omega
    rw [he]
    have hg := h.mono a r ar
    have := Int.mul_nonneg (show 0 ≤ w by omega) (show 0 ≤ G a by omega)
    simp
    omega
  | succ n ih =>
    intro a w a0 ar hw hn
    have hg := h.mono a r ar
    have hga : 0 ≤ G a := by omega
    have hS : 0 ≤ G a - G (a + 1) := by have := h.dec a; omega
    by_cases hu : min (a + w) r - a ≤ 2 * d
    · generalize he : min (a + w) r = e at *
      have ae : a ≤ e := by omega
      have t := h.tangI a e a0 ae
      have q := h.dropI (a - 2 * d) (e - 2 * d) a (by omega) (by omega)
      rw [show e - 2 * d - (a - 2 * d) = e - a by omega] at q
      have q2 := Int.mul_le_mul_of_nonneg_left q (show 0 ≤ d by omega)
      generalize hS2 : G a - G (a + 1) = S at *
      by_cases hl : d ≤ e - a
      · have s := Int.mul_le_mul_of_nonneg_right (Int.mul_le_mul_of_nonneg_right hl (show 0 ≤ e - a by omega)) hS
        have w2 := Int.mul_le_mul_of_nonneg_right (show e - a ≤ w by omega) hga
        rw [Int.mul_assoc d] at s
        omega
      · have her : e = r := by omega
        have k1 := h.tangI a e a0 ae
        have ge : G e ≤ G a := h.mono a e ae
        have gn : (e - a) * S ≤ G a := by
          have t2 := h.drop_ge a (e - a).toNat
          rw [show ((e - a).toNat : Int) = e - a by omega, show a + (e - a) = e by omega] at t2
          have e0 : 0 ≤ G e := by rw [her]; exact hz
          rw [hS2] at t2
          omega
        have w2 := Int.mul_le_mul_of_nonneg_right hw hga
        have m1 := Int.mul_le_mul_of_nonneg_left gn (show 0 ≤ d - (e - a) by omega)
        have x1 : (d - (e - a)) * ((e - a) * S) = d * ((e - a) * S) - (e - a) * (e - a) * S := by grind
        have x2 : (d - (e - a)) * G a = d * G a - (e - a) * G a := by grind
        have y0 : 0 ≤ (d - (e - a)) * ((e - a) * S) := Int.mul_nonneg (by omega) (Int.mul_nonneg (by omega) hS)
        omega
    · have i := ih (a + d) (w - d) (by omega) (by omega) (by omega) (by omega)
      rw [show a + d + (w - d) = a + w by omega] at i
      have t := h.tangI a (a + d) a0 (by omega)
      have q := h.dropI (a - 2 * d) (a + d - 2 * d) a (by omega) (by omega)
      have q2 := Int.mul_le_mul_of_nonneg_left q (show 0 ≤ d by omega)
      rw [show a + d - a = d by omega] at t
      rw [show a + d - 2 * d - (a - 2 * d) = d by omega] at q2
      have e1 : d * d * (G a - G (a + 1)) = d * (d * (G a - G (a + 1))) := Int.mul_assoc _ _ _
      have g2 := h.mono a (a + d) (by omega)
      have w2 := Int.mul_le_mul_of_nonneg_left g2 (show 0 ≤ w - d by omega)
      have x1 : d * (G (a - 2 * d) - G (min (a + w) r - 2 * d)) = d * (G (a - 2 * d) - G (a + d - 2 * d)) + d * (G (a + d - 2 * d) - G (min (a + w) r - 2 * d)) := by
        rw [← Int.mul_add]; congr 1; omega
      have x2 : (w - d) * G a = w * G a - d * G a := Int.sub_mul _ _ _
      omega
theorem highP_of {V r d C : Int} {G : Int → Int} (h : Conc G) (hV : 0 ≤ V) (hr : 0 ≤ r) (hd : 1 ≤ d) (hz : 0 ≤ G r) (hC : C = V * r) (hflat : ∀ k, k ≤ 0 → G k = C) (hx : ∀ y, 0 ≤ y → y ≤ r → G y ≤ V * hcH r y) : HighP V r d (psiL G d C) := by
  have pull : ∀ w y : Int, V * (2 * (w * y)) = 2 * (w * (V * y)) := fun w y => by grind
  have st : ∀ a w, 0 ≤ a → a ≤ r → d ≤ w → psiL G d C (min (a + w) r) - psiL G d C a ≤ 2 * (w * G a) := by
    intro a w a0 ar hw
    have := high_step h hd hz _ a w a0 ar hw (Nat.le_refl _)
    rw [Int.mul_sub] at this
    unfold psiL
    omega
  have p0 : psiL G d C 0 = 0 := by
    unfold psiL
    rw [hflat _ (by omega)]
    simp [tz]
  refine ⟨fun a w a0 ar hw w0 => ?_, fun b b0 => ?_⟩
  · rw [pull]
    have := st a w a0 ar hw
    have := wid_mono w0 (hx a a0 ar)
    omega
  · rw [pull, ← hC]
    by_cases hb : d ≤ b
    · have := st 0 b (by omega) hr hb
      rw [p0, hflat 0 (by omega), Int.zero_add] at this
      omega
    · have hf := hflat (min b r - 2 * d) (by omega)
      unfold psiL
      rw [hf]
      have t := h.tangI 0 (min b r) (by omega) (by omega)
      have hS : 0 ≤ G 0 - G (0 + 1) := by have := h.dec 0; omega
      have hC0 : 0 ≤ C := by rw [hC]; exact Int.mul_nonneg hV hr
      have m2 := Int.mul_le_mul_of_nonneg_right (show min b r ≤ b by omega) hC0
      rw [hflat 0 (by omega)] at t hS
      simp only [Int.toNat_zero, tz, Int.sub_zero] at t
      have m1 := Int.mul_nonneg (Int.mul_nonneg (show 0 ≤ min b r by omega) (show 0 ≤ min b r by omega)) hS
      omega
end Go.Proofs.Ytlofblpfohnooaa
