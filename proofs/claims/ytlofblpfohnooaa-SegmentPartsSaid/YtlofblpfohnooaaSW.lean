/- Plain facts: sums over strips, bounded by a potential. No program stands in this text. -/
import Derived.Test.YtlofblpfohnooaaSM
namespace Go.Proofs.Ytlofblpfohnooaa

/-- a potential on distances from the centre, for both sides -/
def od (F : Int → Int) (r y : Int) : Int := if 0 ≤ y then F (min y r) else -F (min (-y) r)
theorem od_pos (F : Int → Int) (r y : Int) (h : 0 ≤ y) : od F r y = F (min y r) := by unfold od; rw [if_pos h]
theorem od_neg (F : Int → Int) (r y : Int) (h : y < 0) : od F r y = -F (min (-y) r) := by unfold od; rw [if_neg (by omega)]

structure LowP (V r d : Int) (F : Int → Int) : Prop where
  step : ∀ a b, 0 ≤ a → a ≤ b → b ≤ r → d ≤ b - a → V * (2 * ((b - a) * hcL r b)) ≤ F b - F a
  cen : ∀ b, 0 ≤ b → b ≤ r → V * (2 * (b * hcL r b)) ≤ F b
  mono : ∀ a b, 0 ≤ a → a ≤ b → b ≤ r → F a ≤ F b

theorem hcL_out (r y : Int) (h : r < y) : hcL r y = 0 := by unfold hcL; rw [if_pos (.inl h)]
theorem hcH_out (r y : Int) (h : r < y) : hcH r y = 0 := by unfold hcH; rw [if_pos (.inl h)]
theorem mul_le {V x y : Int} (hV : 0 ≤ V) (h : x ≤ y) : V * x ≤ V * y := Int.mul_le_mul_of_nonneg_left h hV

/-- one side: the strip from a to b, b the further end -/
theorem low_side {V r d : Int} {F : Int → Int} (h : LowP V r d F) (hV : 0 ≤ V) (hr : 0 ≤ r) (a b m : Int) (a0 : 0 ≤ a) (ab : a ≤ b) (hd : d ≤ b - a) (hm : m ≤ 2 * hcL r b) :
    V * ((b - a) * m) ≤ F (min b r) - F (min a r) := by
  by_cases hb : b ≤ r
  · rw [show min b r = b by omega, show min a r = a by omega]
    have h1 := h.step a b a0 ab hb hd
    have h2 := wid_mono (w := b - a) (by omega) hm
    have h3 : (b - a) * (2 * hcL r b) = 2 * ((b - a) * hcL r b) := by rw [Int.mul_left_comm]
    have h4 := mul_le hV h2
    rw [h3] at h4
    omega
  · have h0 := hcL_out r b (by omega)
    have h1 := h.mono (min a r) (min b r) (by omega) (by omega) (by omega)
    have h2 := wid_mono (w := b - a) (by omega) (show m ≤ 0 by omega)
    have h4 := mul_le hV h2
    simp at h4
    omega
theorem low_cen {V r d : Int} {F : Int → Int} (h : LowP V r d F) (hV : 0 ≤ V) (hr : 0 ≤ r) (b m : Int) (b0 : 0 ≤ b) (hm : m ≤ 2 * hcL r b) :
    V * (b * m) ≤ F (min b r) := by
  by_cases hb : b ≤ r
  · rw [show min b r = b by omega]
    have h1 := h.cen b b0 hb
    have h2 := wid_mono (w := b) b0 hm
    have h3 : b * (2 * hcL r b) = 2 * (b * hcL r b) := by rw [Int.mul_left_comm]
    have h4 := mul_le hV h2
    rw [h3] at h4
    omega
  · have h0 := hcL_out r b (by omega)
    have h5 := h.cen 0 (by omega) hr
    have h1 := h.mono 0 (min b r) (by omega) (by omega) (by omega)
    have h2 := wid_mono (w := b) b0 (show m ≤ 0 by omega)
    have h4 := mul_le hV h2
    simp at h4 h5
    omega
theorem low_strip {V r d : Int} {F : Int → Int} (h : LowP V r d F) (hV : 0 ≤ V) (hr : 0 ≤ r) (c a b : Int) (ab : a ≤ b) (hd : d ≤ b - a) :
    V * ofL r c a b ≤ od F r (b - c) - od F r (a - c) := by
  unfold ofL
  generalize hm : min (2 * hcL r (a - c)) (2 * hcL r (b - c)) = m
  have ma : m ≤ 2 * hcL r (a - c) := by omega
  have mb : m ≤ 2 * hcL r (b - c) := by omega
  have ew : b - a = (b - c) - (a - c) := by omega
  rw [ew] at hd ⊢
  have hxy : a - c ≤ b - c := by omega
  generalize a - c = x at *
  generalize b - c = y at *
  by_cases hx : 0 ≤ x
  · rw [od_pos F r y (by omega), od_pos F r x hx]
    exact low_side h hV hr x y m hx hxy hd mb
  · rw [od_neg F r x (by omega)]
    have ma' : m ≤ 2 * hcL r (-x) := by rw [(hc_neg r x).1]; exact ma
    by_cases hy : 0 ≤ y
    · rw [od_pos F r y hy]
      have c1 := low_cen h hV hr y m hy mb
      have c2 := low_cen h hV hr (-x) m (by omega) ma'
      have e : V * ((y - x) * m) = V * (y * m) + V * (-x * m) := by
        rw [← Int.mul_add, ← Int.add_mul, Int.sub_eq_add_neg]
      omega
    · rw [od_neg F r y (by omega)]
      have c1 := low_side h hV hr (-y) (-x) m (by omega) (by omega) (by omega) ma'
      have e : -x - -y = y - x := by omega
      rw [e] at c1
      omega
theorem low_sum {V r d : Int} {F : Int → Int} (h : LowP V r d F) (hV : 0 ≤ V) (hr : 0 ≤ r) (c : Int) (l : List Int) (k : Nat) (hl : ∀ i, i < k → l.getD i 0 ≤ l.getD (i + 1) 0 ∧ d ≤ l.getD (i + 1) 0 - l.getD i 0) :
    V * prL r c l k ≤ od F r (l.getD k 0 - c) - od F r (l.getD 0 0 - c) := by
  induction k with
  | zero => simp [prL]
  | succ k ih =>
    have i := ih (fun i hi => hl i (by omega))
    have g := hl k (by omega)
    have s := low_strip h hV hr c _ _ g.1 g.2
    show V * (prL r c l k + _) ≤ _
    rw [Int.mul_add]
    omega

structure HighP (V r d : Int) (F : Int → Int) : Prop where
  step : ∀ a w, 0 ≤ a → a ≤ r → d ≤ w → 0 ≤ w → F (min (a + w) r) - F a ≤ V * (2 * (w * hcH r a))
  cen : ∀ b, 0 ≤ b → F (min b r) ≤ V * (2 * (b * r))
theorem hcH_zero (r : Int) (h : 0 ≤ r) : hcH r 0 = r := (hc_zero r h).2
theorem high_side {V r d : Int} {F : Int → Int} (h : HighP V r d F) (hV : 0 ≤ V) (hr : 0 ≤ r) (a b m : Int) (a0 : 0 ≤ a) (ab : a ≤ b) (hd : d ≤ b - a) (hm : 2 * hcH r a ≤ m) :
    F (min b r) - F (min a r) ≤ V * ((b - a) * m) := by
  have h2 := wid_mono (w := b - a) (by omega) hm
  have h3 : (b - a) * (2 * hcH r a) = 2 * ((b - a) * hcH r a) := by rw [Int.mul_left_comm]
  have h4 := mul_le hV h2
  rw [h3] at h4
  by_cases ha : a ≤ r
  · have h1 := h.step a (b - a) a0 ha hd (by omega)
    rw [show a + (b - a) = b by omega] at h1
    rw [show min a r = a by omega]
    omega
  · rw [show min a r = r by omega, show min b r = r by omega]
    have := hc_le r a hr
    have h5 : 0 ≤ V * (2 * ((b - a) * hcH r a)) := Int.mul_nonneg hV (Int.mul_nonneg (by omega) (Int.mul_nonneg (by omega) (by omega)))
    omega
theorem high_strip {V r d : Int} {F : Int → Int} (h : HighP V r d F) (hV : 0 ≤ V) (hr : 0 ≤ r) (c a b : Int) (ab : a ≤ b) (hd : d ≤ b - a) (h0 : F 0 = 0) :
    od F r (b - c) - od F r (a - c) ≤ V * ofH r c a b := by
  unfold ofH
  have hif : (if a ≤ c ∧ c ≤ b then 2 * r else max (2 * hcH r (a - c)) (2 * hcH r (b - c))) = (if a - c ≤ 0 ∧ 0 ≤ b - c then 2 * r else max (2 * hcH r (a - c)) (2 * hcH r (b - c))) := by
    by_cases g : a ≤ c ∧ c ≤ b
    · rw [if_pos g, if_pos (by omega)]
    · rw [if_neg g, if_neg (by omega)]
  rw [hif]
  have ew : b - a = (b - c) - (a - c) := by omega
  rw [ew] at hd ⊢
  have hxy : a - c ≤ b - c := by omega
  generalize a - c = x at *
  generalize b - c = y at *
  have g1 := hc_le r x hr
  have g2 := hc_le r y hr
  by_cases hx : 0 ≤ x
  · rw [od_pos F r y (by omega), od_pos F r x hx]
    refine high_side h hV hr x y _ hx hxy hd ?_
    split <;> omega
  · rw [od_neg F r x (by omega)]
    by_cases hy : 0 < y
    · rw [od_pos F r y (by omega), if_pos (by omega)]
      have c1 := h.cen y (by omega)
      have c2 := h.cen (-x) (by omega)
      have e : V * ((y - x) * (2 * r)) = V * (2 * (y * r)) + V * (2 * (-x * r)) := by
        rw [← Int.mul_add, ← Int.mul_add, ← Int.add_mul, Int.mul_left_comm (y - x) 2 r, Int.sub_eq_add_neg]
      omega
    · have c1 := high_side h hV hr (-y) (-x) (if x ≤ 0 ∧ 0 ≤ y then 2 * r else max (2 * hcH r x) (2 * hcH r y)) (by omega) (by omega) (by omega) (by rw [(hc_neg r y).2]; split <;> omega)
      have e : -x - -y = y - x := by omega
      rw [e] at c1
      by_cases hz : y = 0
      · subst hz
        rw [od_pos F r 0 (by omega), show min 0 r = 0 by omega, h0]
        rw [show min (-0) r = 0 by omega, h0] at c1
        omega
      · rw [od_neg F r y (by omega)]
        omega
theorem high_sum {V r d : Int} {F : Int → Int} (h : HighP V r d F) (hV : 0 ≤ V) (hr : 0 ≤ r) (h0 : F 0 = 0) (c : Int) (l : List Int) (k : Nat) (hl : ∀ i, i < k → l.getD i 0 ≤ l.getD (i + 1) 0 ∧ d ≤ l.getD (i + 1) 0 - l.getD i 0) :
    od F r (l.getD k 0 - c) - od F r (l.getD 0 0 - c) ≤ V * prH r c l k := by
  induction k with
  | zero => simp [prH]
  | succ k ih =>
    have i := ih (fun i hi => hl i (by omega))
    have g := hl k (by omega)
    have s := high_strip h hV hr c _ _ g.1 g.2 h0
    show _ ≤ V * (prH r c l k + _)
    rw [Int.mul_add]
    omega

/-! ### concave sequences -/
structure Conc (G : Int → Int) : Prop where
  dec : ∀ k, G (k + 1) ≤ G k
  conc : ∀ k, G k - G (k + 1) ≤ G (k + 1) - G (k + 1 + 1)
theorem Conc.slope {G : Int → Int} (h : Conc G) (a : Int) (n : Nat) : G a - G (a + 1) ≤ G (a + n) - G (a + n + 1) := by
  induction n with
  | zero => simp
  | succ n ih =>
    have := h.conc (a + n)
    have e : a + ((n + 1 : Nat) : Int) = a + n + 1 := by omega
    rw [e]; omega
theorem Conc.slope' {G : Int → Int} (h : Conc G) (a b : Int) (hab : a ≤ b) : G a - G (a + 1) ≤ G b - G (b + 1) := by
  have := h.slope a (b - a).toNat
  rw [show a + ((b - a).toNat : Int) = b by omega] at this
  exact this
theorem Conc.drop_le {G : Int → Int} (h : Conc G) (a : Int) (n : Nat) : G a - G (a + n) ≤ n * (G (a + n) - G (a + n + 1)) := by
  induction n with
  | zero => simp
  | succ n ih =>
    have s := h.conc (a + n)
    have e : a + ((n + 1 : Nat) : Int) = a + n + 1 := by omega
    rw [e]
    have m := Int.mul_le_mul_of_nonneg_left s (show (0 : Int) ≤ ((n + 1 : Nat) : Int) by omega)
    have e2 : ((n + 1 : Nat) : Int) * (G (a + n) - G (a + n + 1)) = n * (G (a + n) - G (a + n + 1)) + (G (a + n) - G (a + n + 1)) := by
      rw [Int.natCast_add, Int.add_mul]; simp
    omega
theorem Conc.drop_ge {G : Int → Int} (h : Conc G) (a : Int) (n : Nat) : n * (G a - G (a + 1)) ≤ G a - G (a + n) := by
  induction n with
  | zero => simp
  | succ n ih =>
    have s := h.slope a n
    have e : a + ((n + 1 : Nat) : Int) = a + n + 1 := by omega
    rw [e]
    have e2 : ((n + 1 : Nat) : Int) * (G a - G (a + 1)) = n * (G a - G (a + 1)) + (G a - G (a + 1)) := by
      rw [Int.natCast_add, Int.add_mul]; simp
    omega
theorem Conc.mono {G : Int → Int} (h : Conc G) (a b : Int) (hab : a ≤ b) : G b ≤ G a := by
  have key : ∀ n : Nat, G (a + n) ≤ G a := by
    intro n
    induction n with
    | zero => simp
    | succ n ih =>
      have := h.dec (a + n)
      have e : a + ((n + 1 : Nat) : Int) = a + n + 1 := by omega
      rw [e]; omega
  have := key (b - a).toNat
  rwa [show a + ((b - a).toNat : Int) = b by omega] at this
/-- twice the trapezoids up to n -/
def tz (G : Int → Int) : Nat → Int
  | 0 => 0
  | n + 1 => tz G n + (G n + G (n + 1))
theorem tz_step (G : Int → Int) (a n : Nat) : tz G (a + (n + 1)) = tz G (a + n) + (G (a + n) + G (a + n + 1)) := by
  show tz G (a + n + 1) = _
  show tz G (a + n) + (G ((a + n : Nat) : Int) + G (((a + n : Nat) : Int) + 1)) = _
  rw [Int.natCast_add]
theorem Conc.trap {G : Int → Int} (h : Conc G) (a n : Nat) : n * (G a + G (a + n)) ≤ tz G (a + n) - tz G a := by
  induction n with
  | zero => simp
  | succ n ih =>
    rw [tz_step]
    have d := h.drop_le a n
    have e : (a : Int) + ((n + 1 : Nat) : Int) = a + n + 1 := by omega
    rw [e]
    have e2 : ((n + 1 : Nat) : Int) * (G a + G (a + n + 1)) = n * (G a + G (a + n)) - n * (G (a + n) - G (a + n + 1)) + (G a + G (a + n + 1)) := by
      rw [Int.natCast_add, Int.add_mul, ← Int.mul_sub]
      simp only [Int.natCast_one, Int.one_mul]
      congr 2; omega
    rw [e2]
    omega
theorem Conc.tang {G : Int → Int} (h : Conc G) (a n : Nat) : tz G (a + n) - tz G a + n * n * (G a - G (a + 1)) ≤ 2 * (n * G a) := by
  induction n with
  | zero => simp
  | succ n ih =>
    rw [tz_step]
    have d1 := h.drop_ge a n
    have d2 := h.drop_ge a (n + 1)
    have ec : ((n + 1 : Nat) : Int) = (n : Int) + 1 := by omega
    rw [ec, ← Int.add_assoc] at d2
    rw [ec]
    generalize G a - G (a + 1) = S at *
    have e2 : ((n : Int) + 1) * ((n : Int) + 1) * S = n * n * S + (n * S + ((n : Int) + 1) * S) := by
      rw [Int.mul_add, Int.add_mul, Int.add_mul, Int.mul_one, Int.add_mul, Int.add_mul, Int.one_mul]; omega
    have e3 : 2 * (((n : Int) + 1) * G a) = 2 * (n * G a) + 2 * G a := by
      rw [Int.add_mul]; omega
    rw [e2, e3]
    omega
end Go.Proofs.Ytlofblpfohnooaa
