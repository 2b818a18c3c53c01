/- Texts that the proofs of this seat share, one behind the other: SW, SG, SP, SQ, SX, LG, LQ, LX, LY, LP, PPL, LDW, Txt, Quad, CKL, CRA, PRU, CEP, CRH, Nums, SRefG, LRA, CB0, LRD, CKA, CKB, PPEL. -/
import Derived.Test.YtgjdopjolokaiaaM1
import Derived.RangeFuncNested
import Derived.RangeFuncCalls
import Derived.RangeFuncBox
import Derived.Lib.Hide
import Derived.Lib.ItoaNum
import Derived.StillTailTactics
import Derived.BigQuiet
import Derived.Shelf.GgClosure.StringsRunes
import Derived.Laws.RangeAny

set_option linter.unusedVariables false
set_option linter.unusedSimpArgs false

/- Plain facts: sums over strips, bounded by a potential. No program stands in this text. -/
namespace Go.Proofs.Ytgjdopjolokaiaa

/-- a potential on distances from the centre, for both sides -/
def od (F : Int → Int) (r y : Int) : Int := if 0 ≤ y then F (min y r) else -F (min (-y) r)
theorem od_pos (F : Int → Int) (r y : Int) (h : 0 ≤ y) : od F r y = F (min y r) := by unfold od; rw [if_pos h]
theorem od_neg (F : Int → Int) (r y : Int) (h : y < 0) : od F r y = -F (min (-y) r) := by unfold od; rw [if_neg (by omega)]

structure LowP (V r d : Int) (F : Int → Int) : Prop where
  step : ∀ a b, 0 ≤ a → a ≤ b → b ≤ r → d ≤ b - a → V * (2 * ((b - a) * hcL r b)) ≤ F b - F a
  cen : ∀ b, 0 ≤ b → b ≤ r → V * (2 * (b * hcL r b)) ≤ F b
  mono : ∀ a b, 0 ≤ a → a ≤ b → b ≤ r → F a ≤ F b

theorem hcL_out (r y : Int) (h : r < y) : hcL r y = 0 := by unfold hcL; rw [if_pos (.inl h)]
theorem hcH_out (r y : Int) (h : r < y) : hcH r y = 0 := by unfold hcH; rw [if_pos (.inl h)]
theorem mul_le {V x y : Int} (hV : 0 ≤ V) (h : x ≤ y) : V * x ≤ V * y := Int.mul_le_mul_of_nonneg_left h hV

/-- one side: the strip from a to b, b the further end -/
theorem low_side {V r d : Int} {F : Int → Int} (h : LowP V r d F) (hV : 0 ≤ V) (hr : 0 ≤ r) (a b m : Int) (a0 : 0 ≤ a) (ab : a ≤ b) (hd : d ≤ b - a) (hm : m ≤ 2 * hcL r b) :
    V * ((b - a) * m) ≤ F (min b r) - F (min a r) := by
  by_cases hb : b ≤ r
  · rw [show min b r = b by omega, show min a r = a by omega]
    have h1 := h.step a b a0 ab hb hd
    have h2 := wid_mono (w := b - a) (by omega) hm
    have h3 : (b - a) * (2 * hcL r b) = 2 * ((b - a) * hcL r b) := by rw [Int.mul_left_comm]
    have h4 := mul_le hV h2
    rw [h3] at h4
    omega
  · have h0 := hcL_out r b (by omega)
    have h1 := h.mono (min a r) (min b r) (by omega) (by omega) (by omega)
    have h2 := wid_mono (w := b - a) (by omega) (show m ≤ 0 by omega)
    have h4 := mul_le hV h2
    simp at h4
    omega
theorem low_cen {V r d : Int} {F : Int → Int} (h : LowP V r d F) (hV : 0 ≤ V) (hr : 0 ≤ r) (b m : Int) (b0 : 0 ≤ b) (hm : m ≤ 2 * hcL r b) :
    V * (b * m) ≤ F (min b r) := by
  by_cases hb : b ≤ r
  · rw [show min b r = b by omega]
    have h1 := h.cen b b0 hb
    have h2 := wid_mono (w := b) b0 hm
    have h3 : b * (2 * hcL r b) = 2 * (b * hcL r b) := by rw [Int.mul_left_comm]
    have h4 := mul_le hV h2
    rw [h3] at h4
    omega
  · have h0 := hcL_out r b (by omega)
    have h5 := h.cen 0 (by omega) hr
    have h1 := h.mono 0 (min b r) (by omega) (by omega) (by omega)
    have h2 := wid_mono (w := b) b0 (show m ≤ 0 by omega)
    have h4 := mul_le hV h2
    simp at h4 h5
    omega
theorem low_strip {V r d : Int} {F : Int → Int} (h : LowP V r d F) (hV : 0 ≤ V) (hr : 0 ≤ r) (c a b : Int) (ab : a ≤ b) (hd : d ≤ b - a) :
    V * ofL r c a b ≤ od F r (b - c) - od F r (a - c) := by
  unfold ofL
  generalize hm : min (2 * hcL r (a - c)) (2 * hcL r (b - c)) = m
  have ma : m ≤ 2 * hcL r (a - c) := by omega
  have mb : m ≤ 2 * hcL r (b - c) := by omega
  have ew : b - a = (b - c) - (a - c) := by omega
  rw [ew] at hd ⊢
  have hxy : a - c ≤ b - c := by omega
  generalize a - c = x at *
  generalize b - c = y at *
  by_cases hx : 0 ≤ x
  · rw [od_pos F r y (by omega), od_pos F r x hx]
    exact low_side h hV hr x y m hx hxy hd mb
  · rw [od_neg F r x (by omega)]
    have ma' : m ≤ 2 * hcL r (-x) := by rw [(hc_neg r x).1]; exact ma
    by_cases hy : 0 ≤ y
    · rw [od_pos F r y hy]
      have c1 := low_cen h hV hr y m hy mb
      have c2 := low_cen h hV hr (-x) m (by omega) ma'
      have e : V * ((y - x) * m) = V * (y * m) + V * (-x * m) := by
        rw [← Int.mul_add, ← Int.add_mul, Int.sub_eq_add_neg]
      omega
    · rw [od_neg F r y (by omega)]
      have c1 := low_side h hV hr (-y) (-x) m (by omega) (by omega) (by omega) ma'
      have e : -x - -y = y - x := by omega
      rw [e] at c1
      omega
theorem low_sum {V r d : Int} {F : Int → Int} (h : LowP V r d F) (hV : 0 ≤ V) (hr : 0 ≤ r) (c : Int) (l : List Int) (k : Nat) (hl : ∀ i, i < k → l.getD i 0 ≤ l.getD (i + 1) 0 ∧ d ≤ l.getD (i + 1) 0 - l.getD i 0) :
    V * prL r c l k ≤ od F r (l.getD k 0 - c) - od F r (l.getD 0 0 - c) := by
  induction k with
  | zero => simp [prL]
  | succ k ih =>
    have i := ih (fun i hi => hl i (by omega))
    have g := hl k (by omega)
    have s := low_strip h hV hr c _ _ g.1 g.2
    show V * (prL r c l k + _) ≤ _
    rw [Int.mul_add]
    omega

structure HighP (V r d : Int) (F : Int → Int) : Prop where
  step : ∀ a w, 0 ≤ a → a ≤ r → d ≤ w → 0 ≤ w → F (min (a + w) r) - F a ≤ V * (2 * (w * hcH r a))
  cen : ∀ b, 0 ≤ b → F (min b r) ≤ V * (2 * (b * r))
theorem hcH_zero (r : Int) (h : 0 ≤ r) : hcH r 0 = r := (hc_zero r h).2
theorem high_side {V r d : Int} {F : Int → Int} (h : HighP V r d F) (hV : 0 ≤ V) (hr : 0 ≤ r) (a b m : Int) (a0 : 0 ≤ a) (ab : a ≤ b) (hd : d ≤ b - a) (hm : 2 * hcH r a ≤ m) :
    F (min b r) - F (min a r) ≤ V * ((b - a) * m) := by
  have h2 := wid_mono (w := b - a) (by omega) hm
  have h3 : (b - a) * (2 * hcH r a) = 2 * ((b - a) * hcH r a) := by rw [Int.mul_left_comm]
  have h4 := mul_le hV h2
  rw [h3] at h4
  by_cases ha : a ≤ r
  · have h1 := h.step a (b - a) a0 ha hd (by omega)
    rw [show a + (b - a) = b by omega] at h1
    rw [show min a r = a by omega]
    omega
  · rw [show min a r = r by omega, show min b r = r by omega]
    have := hc_le r a hr
    have h5 : 0 ≤ V * (2 * ((b - a) * hcH r a)) := Int.mul_nonneg hV (Int.mul_nonneg (by omega) (Int.mul_nonneg (by omega) (by omega)))
    omega
theorem high_strip {V r d : Int} {F : Int → Int} (h : HighP V r d F) (hV : 0 ≤ V) (hr : 0 ≤ r) (c a b : Int) (ab : a ≤ b) (hd : d ≤ b - a) (h0 : F 0 = 0) :
    od F r (b - c) - od F r (a - c) ≤ V * ofH r c a b := by
  unfold ofH
  have hif : (if a ≤ c ∧ c ≤ b then 2 * r else max (2 * hcH r (a - c)) (2 * hcH r (b - c))) = (if a - c ≤ 0 ∧ 0 ≤ b - c then 2 * r else max (2 * hcH r (a - c)) (2 * hcH r (b - c))) := by
    by_cases g : a ≤ c ∧ c ≤ b
    · rw [if_pos g, if_pos (by omega)]
    · rw [if_neg g, if_neg (by omega)]
  rw [hif]
  have ew : b - a = (b - c) - (a - c) := by omega
  rw [ew] at hd ⊢
  have hxy : a - c ≤ b - c := by omega
  generalize a - c = x at *
  generalize b - c = y at *
  have g1 := hc_le r x hr
  have g2 := hc_le r y hr
  by_cases hx : 0 ≤ x
  · rw [od_pos F r y (by omega), od_pos F r x hx]
    refine high_side h hV hr x y _ hx hxy hd ?_
    split <;> omega
  · rw [od_neg F r x (by omega)]
    by_cases hy : 0 < y
    · rw [od_pos F r y (by omega), if_pos (by omega)]
      have c1 := h.cen y (by omega)
      have c2 := h.cen (-x) (by omega)
      have e : V * ((y - x) * (2 * r)) = V * (2 * (y * r)) + V * (2 * (-x * r)) := by
        rw [← Int.mul_add, ← Int.mul_add, ← Int.add_mul, Int.mul_left_comm (y - x) 2 r, Int.sub_eq_add_neg]
      omega
    · have c1 := high_side h hV hr (-y) (-x) (if x ≤ 0 ∧ 0 ≤ y then 2 * r else max (2 * hcH r x) (2 * hcH r y)) (by omega) (by omega) (by omega) (by rw [(hc_neg r y).2]; split <;> omega)
      have e : -x - -y = y - x := by omega
      rw [e] at c1
      by_cases hz : y = 0
      · subst hz
        rw [od_pos F r 0 (by omega), show min 0 r = 0 by omega, h0]
        rw [show min (-0) r = 0 by omega, h0] at c1
        omega
      · rw [od_neg F r y (by omega)]
        omega
theorem high_sum {V r d : Int} {F : Int → Int} (h : HighP V r d F) (hV : 0 ≤ V) (hr : 0 ≤ r) (h0 : F 0 = 0) (c : Int) (l : List Int) (k : Nat) (hl : ∀ i, i < k → l.getD i 0 ≤ l.getD (i + 1) 0 ∧ d ≤ l.getD (i + 1) 0 - l.getD i 0) :
    od F r (l.getD k 0 - c) - od F r (l.getD 0 0 - c) ≤ V * prH r c l k := by
  induction k with
  | zero => simp [prH]
  | succ k ih =>
    have i := ih (fun i hi => hl i (by omega))
    have g := hl k (by omega)
    have s := high_strip h hV hr c _ _ g.1 g.2 h0
    show _ ≤ V * (prH r c l k + _)
    rw [Int.mul_add]
    omega

/-! ### concave sequences -/
structure Conc (G : Int → Int) : Prop where
  dec : ∀ k, G (k + 1) ≤ G k
  conc : ∀ k, G k - G (k + 1) ≤ G (k + 1) - G (k + 1 + 1)
theorem Conc.slope {G : Int → Int} (h : Conc G) (a : Int) (n : Nat) : G a - G (a + 1) ≤ G (a + n) - G (a + n + 1) := by
  induction n with
  | zero => simp
  | succ n ih =>
    have := h.conc (a + n)
    have e : a + ((n + 1 : Nat) : Int) = a + n + 1 := by omega
    rw [e]; omega
theorem Conc.slope' {G : Int → Int} (h : Conc G) (a b : Int) (hab : a ≤ b) : G a - G (a + 1) ≤ G b - G (b + 1) := by
  have := h.slope a (b - a).toNat
  rw [show a + ((b - a).toNat : Int) = b by omega] at this
  exact this
theorem Conc.drop_le {G : Int → Int} (h : Conc G) (a : Int) (n : Nat) : G a - G (a + n) ≤ n * (G (a + n) - G (a + n + 1)) := by
  induction n with
  | zero => simp
  | succ n ih =>
    have s := h.conc (a + n)
    have e : a + ((n + 1 : Nat) : Int) = a + n + 1 := by omega
    rw [e]
    have m := Int.mul_le_mul_of_nonneg_left s (show (0 : Int) ≤ ((n + 1 : Nat) : Int) by omega)
    have e2 : ((n + 1 : Nat) : Int) * (G (a + n) - G (a + n + 1)) = n * (G (a + n) - G (a + n + 1)) + (G (a + n) - G (a + n + 1)) := by
      rw [Int.natCast_add, Int.add_mul]; simp
    omega
theorem Conc.drop_ge {G : Int → Int} (h : Conc G) (a : Int) (n : Nat) : n * (G a - G (a + 1)) ≤ G a - G (a + n) := by
  induction n with
  | zero => simp
  | succ n ih =>
    have s := h.slope a n
    have e : a + ((n + 1 : Nat) : Int) = a + n + 1 := by omega
    rw [e]
    have e2 : ((n + 1 : Nat) : Int) * (G a - G (a + 1)) = n * (G a - G (a + 1)) + (G a - G (a + 1)) := by
      rw [Int.natCast_add, Int.add_mul]; simp
    omega
theorem Conc.mono {G : Int → Int} (h : Conc G) (a b : Int) (hab : a ≤ b) : G b ≤ G a := by
  have key : ∀ n : Nat, G (a + n) ≤ G a := by
    intro n
    induction n with
    | zero => simp
    | succ n ih =>
      have := h.dec (a + n)
      have e : a + ((n + 1 : Nat) : Int) = a + n + 1 := by omega
      rw [e]; omega
  have := key (b - a).toNat
  rwa [show a + ((b - a).toNat : Int) = b by omega] at this
/-- twice the trapezoids up to n -/
def tz (G : Int → Int) : Nat → Int
  | 0 => 0
  | n + 1 => tz G n + (G n + G (n + 1))
theorem tz_step (G : Int → Int) (a n : Nat) : tz G (a + (n + 1)) = tz G (a + n) + (G (a + n) + G (a + n + 1)) := by
  show tz G (a + n + 1) = _
  show tz G (a + n) + (G ((a + n : Nat) : Int) + G (((a + n : Nat) : Int) + 1)) = _
  rw [Int.natCast_add]
theorem Conc.trap {G : Int → Int} (h : Conc G) (a n : Nat) : n * (G a + G (a + n)) ≤ tz G (a + n) - tz G a := by
  induction n with
  | zero => simp
  | succ n ih =>
    rw [tz_step]
    have d := h.drop_le a n
    have e : (a : Int) + ((n + 1 : Nat) : Int) = a + n + 1 := by omega
    rw [e]
    have e2 : ((n + 1 : Nat) : Int) * (G a + G (a + n + 1)) = n * (G a + G (a + n)) - n * (G (a + n) - G (a + n + 1)) + (G a + G (a + n + 1)) := by
      rw [Int.natCast_add, Int.add_mul, ← Int.mul_sub]
      simp only [Int.natCast_one, Int.one_mul]
      congr 2; omega
    rw [e2]
    omega
theorem Conc.tang {G : Int → Int} (h : Conc G) (a n : Nat) : tz G (a + n) - tz G a + n * n * (G a - G (a + 1)) ≤ 2 * (n * G a) := by
  induction n with
  | zero => simp
  | succ n ih =>
    rw [tz_step]
    have d1 := h.drop_ge a n
    have d2 := h.drop_ge a (n + 1)
    have ec : ((n + 1 : Nat) : Int) = (n : Int) + 1 := by omega
    rw [ec, ← Int.add_assoc] at d2
    rw [ec]
    generalize G a - G (a + 1) = S at *
    have e2 : ((n : Int) + 1) * ((n : Int) + 1) * S = n * n * S + (n * S + ((n : Int) + 1) * S) := by
      rw [Int.mul_add, Int.add_mul, Int.add_mul, Int.mul_one, Int.add_mul, Int.add_mul, Int.one_mul]; omega
    have e3 : 2 * (((n : Int) + 1) * G a) = 2 * (n * G a) + 2 * G a := by
      rw [Int.add_mul]; omega
    rw [e2, e3]
    omega
end Go.Proofs.Ytgjdopjolokaiaa

/- Plain facts: a polygon around a circle, and one in it. No program stands in this text. (Written by m/sg.py.) -/
namespace Go.Proofs.Ytgjdopjolokaiaa

theorem Conc.lin (C B : Int) (h : 0 ≤ B) : Conc (fun k => C - B * k) := by
  refine ⟨fun k => ?_, fun k => ?_⟩
  · show C - B * (k + 1) ≤ C - B * k
    rw [Int.mul_add]; omega
  · show C - B * k - (C - B * (k + 1)) ≤ C - B * (k + 1) - (C - B * (k + 1 + 1))
    rw [Int.mul_add, Int.mul_add, Int.mul_add]; omega
theorem Conc.min {F G : Int → Int} (h : Conc F) (g : Conc G) : Conc (fun k => Min.min (F k) (G k)) := by
  refine ⟨fun k => ?_, fun k => ?_⟩
  · show Min.min (F (k + 1)) (G (k + 1)) ≤ Min.min (F k) (G k)
    have := h.dec k; have := g.dec k; omega
  · show Min.min (F k) (G k) - Min.min (F (k + 1)) (G (k + 1)) ≤ Min.min (F (k + 1)) (G (k + 1)) - Min.min (F (k + 1 + 1)) (G (k + 1 + 1))
    have := h.conc k; have := g.conc k; omega

def gU (r k : Int) : Int := min (100000 * r - 0 * k) (min (102000 * r - 20000 * k) (min (111900 * r - 50000 * k) (min (134700 * r - 90000 * k) (min (189300 * r - 160000 * k) (364100 * r - 350000 * k)))))
theorem gU_conc (r : Int) : Conc (gU r) := ((Conc.lin (100000 * r) 0 (by omega)).min ((Conc.lin (102000 * r) 20000 (by omega)).min ((Conc.lin (111900 * r) 50000 (by omega)).min ((Conc.lin (134700 * r) 90000 (by omega)).min ((Conc.lin (189300 * r) 160000 (by omega)).min (Conc.lin (364100 * r) 350000 (by omega)))))))
theorem gU_le (r k : Int) : gU r k ≤ 100000 * r - 0 * k ∧ gU r k ≤ 102000 * r - 20000 * k ∧ gU r k ≤ 111900 * r - 50000 * k ∧ gU r k ≤ 134700 * r - 90000 * k ∧ gU r k ≤ 189300 * r - 160000 * k ∧ gU r k ≤ 364100 * r - 350000 * k := by
  unfold gU
  refine ⟨?_, ?_, ?_, ?_, ?_, ?_⟩ <;> omega
theorem gU_ge (r k X : Int) (h : X ≤ 100000 * r - 0 * k ∧ X ≤ 102000 * r - 20000 * k ∧ X ≤ 111900 * r - 50000 * k ∧ X ≤ 134700 * r - 90000 * k ∧ X ≤ 189300 * r - 160000 * k ∧ X ≤ 364100 * r - 350000 * k) : X ≤ gU r k := by
  unfold gU
  omega
def gL (r k : Int) : Int := min (100000 * r - 0 * k) (min (100000 * r - 11200 * k) (min (105016 * r - 34000 * k) (min (115810 * r - 59700 * k) (min (135430 * r - 92400 * k) (min (171355 * r - 140300 * k) (min (245827 * r - 225900 * k) (min (437727 * r - 427900 * k) (1410600 * r - 1410600 * k))))))))
theorem gL_conc (r : Int) : Conc (gL r) := ((Conc.lin (100000 * r) 0 (by omega)).min ((Conc.lin (100000 * r) 11200 (by omega)).min ((Conc.lin (105016 * r) 34000 (by omega)).min ((Conc.lin (115810 * r) 59700 (by omega)).min ((Conc.lin (135430 * r) 92400 (by omega)).min ((Conc.lin (171355 * r) 140300 (by omega)).min ((Conc.lin (245827 * r) 225900 (by omega)).min ((Conc.lin (437727 * r) 427900 (by omega)).min (Conc.lin (1410600 * r) 1410600 (by omega))))))))))
theorem gL_le (r k : Int) : gL r k ≤ 100000 * r - 0 * k ∧ gL r k ≤ 100000 * r - 11200 * k ∧ gL r k ≤ 105016 * r - 34000 * k ∧ gL r k ≤ 115810 * r - 59700 * k ∧ gL r k ≤ 135430 * r - 92400 * k ∧ gL r k ≤ 171355 * r - 140300 * k ∧ gL r k ≤ 245827 * r - 225900 * k ∧ gL r k ≤ 437727 * r - 427900 * k ∧ gL r k ≤ 1410600 * r - 1410600 * k := by
  unfold gL
  refine ⟨?_, ?_, ?_, ?_, ?_, ?_, ?_, ?_, ?_⟩ <;> omega
theorem gL_ge (r k X : Int) (h : X ≤ 100000 * r - 0 * k ∧ X ≤ 100000 * r - 11200 * k ∧ X ≤ 105016 * r - 34000 * k ∧ X ≤ 115810 * r - 59700 * k ∧ X ≤ 135430 * r - 92400 * k ∧ X ≤ 171355 * r - 140300 * k ∧ X ≤ 245827 * r - 225900 * k ∧ X ≤ 437727 * r - 427900 * k ∧ X ≤ 1410600 * r - 1410600 * k) : X ≤ gL r k := by
  unfold gL
  omega

/-- a tangent -/
theorem tangent (A B V x y r : Int) (h : V * V + B * B ≤ A * A) (hA : 0 ≤ A) (hr : 0 ≤ r) (hc : x * x + y * y ≤ r * r) : V * x ≤ A * r - B * y := by
  have h0 : 0 ≤ x * x + y * y := by
    have q : ∀ z : Int, 0 ≤ z * z := fun z => by
      by_cases hz : 0 ≤ z
      · exact Int.mul_nonneg hz hz
      · rw [← Int.neg_mul_neg]; exact Int.mul_nonneg (by omega) (by omega)
    have := q x; have := q y; omega
  have h2 : (V * V + B * B) * (x * x + y * y) ≤ (A * A) * (r * r) := Int.mul_le_mul h hc h0 (Int.mul_nonneg hA hA)
  have e1 : (V * x + B * y) * (V * x + B * y) + (V * y - B * x) * (V * y - B * x) = (V * V + B * B) * (x * x + y * y) := by grind
  have e2 : (A * A) * (r * r) = (A * r) * (A * r) := by grind
  have h3 : 0 ≤ (V * y - B * x) * (V * y - B * x) := by
    by_cases hz : 0 ≤ V * y - B * x
    · exact Int.mul_nonneg hz hz
    · rw [← Int.neg_mul_neg]; exact Int.mul_nonneg (by omega) (by omega)
  have := sq_le (a := V * x + B * y) (b := A * r) (Int.mul_nonneg hA hr) (by omega)
  omega
/-- a chord: between its ends it lies within the circle -/
theorem chord_sq (V Z1 Z2 c1 c2 u v : Int) (hu : 0 ≤ u) (hv : 0 ≤ v) (h1 : Z1 * Z1 + V * V * (c1 * c1) ≤ 10000 * (V * V)) (h2 : Z2 * Z2 + V * V * (c2 * c2) ≤ 10000 * (V * V)) (h12 : Z1 * Z2 + V * V * (c1 * c2) ≤ 10000 * (V * V)) :
    (Z1 * v + Z2 * u) * (Z1 * v + Z2 * u) + V * V * ((c1 * v + c2 * u) * (c1 * v + c2 * u)) ≤ V * V * ((100 * (u + v)) * (100 * (u + v))) := by
  have a1 := Int.mul_le_mul_of_nonneg_right h1 (Int.mul_nonneg hv hv)
  have a2 := Int.mul_le_mul_of_nonneg_right h2 (Int.mul_nonneg hu hu)
  have a3 := Int.mul_le_mul_of_nonneg_right h12 (Int.mul_nonneg hu hv)
  have e1 : (Z1 * v + Z2 * u) * (Z1 * v + Z2 * u) + V * V * ((c1 * v + c2 * u) * (c1 * v + c2 * u)) = (Z1 * Z1 + V * V * (c1 * c1)) * (v * v) + (Z2 * Z2 + V * V * (c2 * c2)) * (u * u) + 2 * ((Z1 * Z2 + V * V * (c1 * c2)) * (u * v)) := by grind
  have e2 : V * V * ((100 * (u + v)) * (100 * (u + v))) = 10000 * (V * V) * (v * v) + 10000 * (V * V) * (u * u) + 2 * (10000 * (V * V) * (u * v)) := by grind
  omega
theorem chord_in (V A B c1 c2 r y X : Int) (hV : 0 ≤ V) (hX : 0 ≤ X) (hc : c1 < c2) (hr : 0 ≤ r) (h1 : c1 * r ≤ 100 * y) (h2 : 100 * y ≤ c2 * r)
    (k1 : (100 * A - B * c1) * (100 * A - B * c1) + V * V * (c1 * c1) ≤ 10000 * (V * V)) (k2 : (100 * A - B * c2) * (100 * A - B * c2) + V * V * (c2 * c2) ≤ 10000 * (V * V)) (k12 : (100 * A - B * c1) * (100 * A - B * c2) + V * V * (c1 * c2) ≤ 10000 * (V * V))
    (hx : r * r ≤ X * X + y * y) : A * r - B * y ≤ V * X := by
  have q := chord_sq V _ _ c1 c2 (100 * y - c1 * r) (c2 * r - 100 * y) (by omega) (by omega) k1 k2 k12
  have e1 : (100 * A - B * c1) * (c2 * r - 100 * y) + (100 * A - B * c2) * (100 * y - c1 * r) = (100 * (c2 - c1)) * (A * r - B * y) := by grind
  have e2 : c1 * (c2 * r - 100 * y) + c2 * (100 * y - c1 * r) = (100 * (c2 - c1)) * y := by grind
  have e3 : 100 * (100 * y - c1 * r + (c2 * r - 100 * y)) = (100 * (c2 - c1)) * r := by grind
  rw [e1, e2, e3] at q
  generalize hD : 100 * (c2 - c1) = D at q
  have hD0 : 0 < D := by omega
  have q2 : (D * D) * ((A * r - B * y) * (A * r - B * y) + V * V * (y * y)) ≤ (D * D) * (V * V * (r * r)) := by
    have f1 : (D * D) * ((A * r - B * y) * (A * r - B * y) + V * V * (y * y)) = D * (A * r - B * y) * (D * (A * r - B * y)) + V * V * (D * y * (D * y)) := by grind
    have f2 : (D * D) * (V * V * (r * r)) = V * V * (D * r * (D * r)) := by grind
    rw [f1, f2]; exact q
  have q3 := Int.le_of_mul_le_mul_left q2 (Int.mul_pos hD0 hD0)
  have q4 : V * V * (r * r) ≤ V * V * (X * X + y * y) := Int.mul_le_mul_of_nonneg_left hx (Int.mul_nonneg hV hV)
  have f3 : V * V * (X * X + y * y) = (V * X) * (V * X) + V * V * (y * y) := by grind
  exact sq_le (Int.mul_nonneg hV hX) (by omega)

theorem hcL_up (r y : Int) (hr : 0 ≤ r) (h0 : 0 ≤ y) (h1 : y ≤ r) : 100000 * hcL r y ≤ gU r y := by
  have hc := (hc_circle r y (by omega)).1
  refine gU_ge r y _ ⟨tangent 100000 0 100000 _ y r (by omega) (by omega) hr hc, tangent 102000 20000 100000 _ y r (by omega) (by omega) hr hc, tangent 111900 50000 100000 _ y r (by omega) (by omega) hr hc, tangent 134700 90000 100000 _ y r (by omega) (by omega) hr hc, tangent 189300 160000 100000 _ y r (by omega) (by omega) hr hc, tangent 364100 350000 100000 _ y r (by omega) (by omega) hr hc⟩
theorem hcH_low (r y : Int) (hr : 0 ≤ r) (h0 : 0 ≤ y) (h1 : y ≤ r) : gL r y ≤ 100000 * hcH r y := by
  have hc := (hc_circle r y (by omega)).2
  have hX := (hc_le r y hr)
  obtain ⟨g0, g1, g2, g3, g4, g5, g6, g7, g8⟩ := gL_le r y
  by_cases b0 : 100 * y ≤ 22 * r
  · have := chord_in 100000 100000 11200 0 22 r y (hcH r y) (by omega) (by omega) (by omega) hr (by omega) b0 (by omega) (by omega) (by omega) hc; omega
  by_cases b1 : 100 * y ≤ 42 * r
  · have := chord_in 100000 105016 34000 22 42 r y (hcH r y) (by omega) (by omega) (by omega) hr (by omega) b1 (by omega) (by omega) (by omega) hc; omega
  by_cases b2 : 100 * y ≤ 60 * r
  · have := chord_in 100000 115810 59700 42 60 r y (hcH r y) (by omega) (by omega) (by omega) hr (by omega) b2 (by omega) (by omega) (by omega) hc; omega
  by_cases b3 : 100 * y ≤ 75 * r
  · have := chord_in 100000 135430 92400 60 75 r y (hcH r y) (by omega) (by omega) (by omega) hr (by omega) b3 (by omega) (by omega) (by omega) hc; omega
  by_cases b4 : 100 * y ≤ 87 * r
  · have := chord_in 100000 171355 140300 75 87 r y (hcH r y) (by omega) (by omega) (by omega) hr (by omega) b4 (by omega) (by omega) (by omega) hc; omega
  by_cases b5 : 100 * y ≤ 95 * r
  · have := chord_in 100000 245827 225900 87 95 r y (hcH r y) (by omega) (by omega) (by omega) hr (by omega) b5 (by omega) (by omega) (by omega) hc; omega
  by_cases b6 : 100 * y ≤ 99 * r
  · have := chord_in 100000 437727 427900 95 99 r y (hcH r y) (by omega) (by omega) (by omega) hr (by omega) b6 (by omega) (by omega) (by omega) hc; omega
  by_cases b7 : 100 * y ≤ 100 * r
  · have := chord_in 100000 1410600 1410600 99 100 r y (hcH r y) (by omega) (by omega) (by omega) hr (by omega) b7 (by omega) (by omega) (by omega) hc; omega
  omega
end Go.Proofs.Ytgjdopjolokaiaa

/- Plain facts: the potentials of both polygons. No program stands in this text. -/
namespace Go.Proofs.Ytgjdopjolokaiaa

theorem Conc.trapI {G : Int → Int} (h : Conc G) (a b : Int) (h0 : 0 ≤ a) (hab : a ≤ b) : (b - a) * (G a + G b) ≤ tz G b.toNat - tz G a.toNat := by
  obtain ⟨A, rfl⟩ := Int.eq_ofNat_of_zero_le h0
  obtain ⟨n, hn⟩ := Int.eq_ofNat_of_zero_le (show 0 ≤ b - A by omega)
  obtain rfl : b = ((A + n : Nat) : Int) := by omega
  have := h.trap A n
  rw [hn, Int.toNat_natCast, Int.toNat_natCast, Int.natCast_add]
  exact this
theorem Conc.tangI {G : Int → Int} (h : Conc G) (a b : Int) (h0 : 0 ≤ a) (hab : a ≤ b) : tz G b.toNat - tz G a.toNat + (b - a) * (b - a) * (G a - G (a + 1)) ≤ 2 * ((b - a) * G a) := by
  obtain ⟨A, rfl⟩ := Int.eq_ofNat_of_zero_le h0
  obtain ⟨n, hn⟩ := Int.eq_ofNat_of_zero_le (show 0 ≤ b - A by omega)
  obtain rfl : b = ((A + n : Nat) : Int) := by omega
  have := h.tang A n
  rw [hn, Int.toNat_natCast, Int.toNat_natCast]
  exact this
theorem Conc.dropI {G : Int → Int} (h : Conc G) (a b c : Int) (hab : a ≤ b) (hbc : b ≤ c) : G a - G b ≤ (b - a) * (G c - G (c + 1)) := by
  obtain ⟨n, hn⟩ := Int.eq_ofNat_of_zero_le (show 0 ≤ b - a by omega)
  have := h.drop_le a n
  have e : a + (n : Int) = b := by omega
  rw [e] at this
  have s := h.slope' b c hbc
  have := Int.mul_le_mul_of_nonneg_left s (show 0 ≤ b - a by omega)
  rw [← hn] at *
  omega

/-! ### below -/
def phiU (G : Int → Int) (d y : Int) : Int := tz G y.toNat + d * G y - d * G d
theorem lowP_of {V r d M : Int} {G : Int → Int} (h : Conc G) (hV : 0 ≤ V) (hr : 0 ≤ r) (hd : 0 ≤ d) (hx : ∀ y, 0 ≤ y → y ≤ r → V * hcL r y ≤ G y) (hM : ∀ k, G k - G (k + 1) ≤ M) (hMd : d * M ≤ 2 * G r) : LowP V r d (phiU G d) := by
  have pull : ∀ w y : Int, V * (2 * (w * hcL r y)) = 2 * (w * (V * hcL r y)) := fun w y => by grind
  have dist : ∀ w x y : Int, w * (x + y) = w * x + w * y := fun w x y => Int.mul_add w x y
  have mono1 : ∀ a, 0 ≤ a → a + 1 ≤ r → phiU G d a ≤ phiU G d (a + 1) := by
    intro a a0 ar
    unfold phiU
    have t : tz G (a + 1).toNat = tz G a.toNat + (G a + G (a + 1)) := by
      rw [show (a + 1).toNat = a.toNat + 1 by omega]
      show tz G a.toNat + (G (a.toNat : Int) + G ((a.toNat : Int) + 1)) = _
      rw [show (a.toNat : Int) = a by omega]
    have g1 := h.mono a r (by omega)
    have g2 := h.mono (a + 1) r ar
    have m := Int.mul_le_mul_of_nonneg_left (hM a) hd
    rw [Int.mul_sub] at m
    omega
  have z0 : 0 ≤ tz G 0 := by simp [tz]
  refine ⟨fun a b a0 ab br hw => ?_, fun b b0 br => ?_, fun a b a0 ab br => ?_⟩
  · rw [pull]
    have t := h.trapI a b a0 ab
    have x := wid_mono (w := b - a) (by omega) (hx b (by omega) br)
    have g := h.mono a b ab
    have s := Int.mul_le_mul_of_nonneg_right hw (show 0 ≤ G a - G b by omega)
    rw [Int.mul_sub, Int.mul_sub] at s
    rw [dist] at t
    unfold phiU
    omega
  · rw [pull]
    have t := h.trapI 0 b (by omega) b0
    rw [Int.sub_zero, dist] at t
    have x := wid_mono (w := b) b0 (hx b b0 br)
    have g := h.mono 0 b b0
    have s0 := wid_mono (w := b) b0 g
    simp only [Int.toNat_zero, tz, Int.sub_zero] at t
    unfold phiU
    by_cases hb : d ≤ b
    · have s := Int.mul_le_mul_of_nonneg_right hb (show 0 ≤ G 0 - G b by omega)
      rw [Int.mul_sub, Int.mul_sub] at s
      have g2 := Int.mul_le_mul_of_nonneg_left (h.mono 0 d hd) hd
      omega
    · have g2 := Int.mul_le_mul_of_nonneg_left (h.mono b d (by omega)) hd
      omega
  · obtain ⟨n, hn⟩ := Int.eq_ofNat_of_zero_le (show 0 ≤ b - a by omega)
    obtain rfl : b = a + n := by omega
    clear hn ab
    induction n with
    | zero => simp
    | succ n ih =>
      have := ih (by omega)
      have m := mono1 (a + n) (by omega) (by omega)
      rw [show a + ((n + 1 : Nat) : Int) = a + n + 1 by omega]
      omega

/-! ### above -/
def psiL (G : Int → Int) (d C y : Int) : Int := tz G y.toNat + d * C - d * G (y - 2 * d)
theorem high_step {r d : Int} {G : Int → Int} (h : Conc G) (hd : 1 ≤ d) (hz : 0 ≤ G r) : ∀ (n : Nat) (a w : Int), 0 ≤ a → a ≤ r → d ≤ w → (min (a + w) r - a).toNat ≤ n →
    tz G (min (a + w) r).toNat - tz G a.toNat + d * (G (a - 2 * d) - G (min (a + w) r - 2 * d)) ≤ 2 * (w * G a) := by
  intro n
  induction n with
  | zero =>
    intro a w a0 ar hw hn
    obtain he : min (a + w) r = a := by omega
    rw [he]
    have hg := h.mono a r ar
    have := Int.mul_nonneg (show 0 ≤ w by omega) (show 0 ≤ G a by omega)
    simp
    omega
  | succ n ih =>
    intro a w a0 ar hw hn
    have hg := h.mono a r ar
    have hga : 0 ≤ G a := by omega
    have hS : 0 ≤ G a - G (a + 1) := by have := h.dec a; omega
    by_cases hu : min (a + w) r - a ≤ 2 * d
    · generalize he : min (a + w) r = e at *
      have ae : a ≤ e := by omega
      have t := h.tangI a e a0 ae
      have q := h.dropI (a - 2 * d) (e - 2 * d) a (by omega) (by omega)
      rw [show e - 2 * d - (a - 2 * d) = e - a by omega] at q
      have q2 := Int.mul_le_mul_of_nonneg_left q (show 0 ≤ d by omega)
      generalize hS2 : G a - G (a + 1) = S at *
      by_cases hl : d ≤ e - a
      · have s := Int.mul_le_mul_of_nonneg_right (Int.mul_le_mul_of_nonneg_right hl (show 0 ≤ e - a by omega)) hS
        have w2 := Int.mul_le_mul_of_nonneg_right (show e - a ≤ w by omega) hga
        rw [Int.mul_assoc d] at s
        omega
      · have her : e = r := by omega
        have k1 := h.tangI a e a0 ae
        have ge : G e ≤ G a := h.mono a e ae
        have gn : (e - a) * S ≤ G a := by
          have t2 := h.drop_ge a (e - a).toNat
          rw [show ((e - a).toNat : Int) = e - a by omega, show a + (e - a) = e by omega] at t2
          have e0 : 0 ≤ G e := by rw [her]; exact hz
          rw [hS2] at t2
          omega
        have w2 := Int.mul_le_mul_of_nonneg_right hw hga
        have m1 := Int.mul_le_mul_of_nonneg_left gn (show 0 ≤ d - (e - a) by omega)
        have x1 : (d - (e - a)) * ((e - a) * S) = d * ((e - a) * S) - (e - a) * (e - a) * S := by grind
        have x2 : (d - (e - a)) * G a = d * G a - (e - a) * G a := by grind
        have y0 : 0 ≤ (d - (e - a)) * ((e - a) * S) := Int.mul_nonneg (by omega) (Int.mul_nonneg (by omega) hS)
        omega
    · have i := ih (a + d) (w - d) (by omega) (by omega) (by omega) (by omega)
      rw [show a + d + (w - d) = a + w by omega] at i
      have t := h.tangI a (a + d) a0 (by omega)
      have q := h.dropI (a - 2 * d) (a + d - 2 * d) a (by omega) (by omega)
      have q2 := Int.mul_le_mul_of_nonneg_left q (show 0 ≤ d by omega)
      rw [show a + d - a = d by omega] at t
      rw [show a + d - 2 * d - (a - 2 * d) = d by omega] at q2
      have e1 : d * d * (G a - G (a + 1)) = d * (d * (G a - G (a + 1))) := Int.mul_assoc _ _ _
      have g2 := h.mono a (a + d) (by omega)
      have w2 := Int.mul_le_mul_of_nonneg_left g2 (show 0 ≤ w - d by omega)
      have x1 : d * (G (a - 2 * d) - G (min (a + w) r - 2 * d)) = d * (G (a - 2 * d) - G (a + d - 2 * d)) + d * (G (a + d - 2 * d) - G (min (a + w) r - 2 * d)) := by
        rw [← Int.mul_add]; congr 1; omega
      have x2 : (w - d) * G a = w * G a - d * G a := Int.sub_mul _ _ _
      omega
theorem highP_of {V r d C : Int} {G : Int → Int} (h : Conc G) (hV : 0 ≤ V) (hr : 0 ≤ r) (hd : 1 ≤ d) (hz : 0 ≤ G r) (hC : C = V * r) (hflat : ∀ k, k ≤ 0 → G k = C) (hx : ∀ y, 0 ≤ y → y ≤ r → G y ≤ V * hcH r y) : HighP V r d (psiL G d C) := by
  have pull : ∀ w y : Int, V * (2 * (w * y)) = 2 * (w * (V * y)) := fun w y => by grind
  have st : ∀ a w, 0 ≤ a → a ≤ r → d ≤ w → psiL G d C (min (a + w) r) - psiL G d C a ≤ 2 * (w * G a) := by
    intro a w a0 ar hw
    have := high_step h hd hz _ a w a0 ar hw (Nat.le_refl _)
    rw [Int.mul_sub] at this
    unfold psiL
    omega
  have p0 : psiL G d C 0 = 0 := by
    unfold psiL
    rw [hflat _ (by omega)]
    simp [tz]
  refine ⟨fun a w a0 ar hw w0 => ?_, fun b b0 => ?_⟩
  · rw [pull]
    have := st a w a0 ar hw
    have := wid_mono w0 (hx a a0 ar)
    omega
  · rw [pull, ← hC]
    by_cases hb : d ≤ b
    · have := st 0 b (by omega) hr hb
      rw [p0, hflat 0 (by omega), Int.zero_add] at this
      omega
    · have hf := hflat (min b r - 2 * d) (by omega)
      unfold psiL
      rw [hf]
      have t := h.tangI 0 (min b r) (by omega) (by omega)
      have hS : 0 ≤ G 0 - G (0 + 1) := by have := h.dec 0; omega
      have hC0 : 0 ≤ C := by rw [hC]; exact Int.mul_nonneg hV hr
      have m2 := Int.mul_le_mul_of_nonneg_right (show min b r ≤ b by omega) hC0
      rw [hflat 0 (by omega)] at t hS
      simp only [Int.toNat_zero, tz, Int.sub_zero] at t
      have m1 := Int.mul_nonneg (Int.mul_nonneg (show 0 ≤ min b r by omega) (show 0 ≤ min b r by omega)) hS
      omega
end Go.Proofs.Ytgjdopjolokaiaa

/- Plain facts: what the potentials of both polygons come to. No program stands in this text. (Written by m/sq.py.) -/
namespace Go.Proofs.Ytgjdopjolokaiaa

/-- twice the area under a line up to k -/
def ln (A B r k : Int) : Int := 2 * A * (r * k) - B * (k * k)
theorem ln_step (A B r k : Int) : ln A B r (k + 1) - ln A B r k = (A * r - B * k) + (A * r - B * (k + 1)) := by
  unfold ln; grind
theorem tz_up {G : Int → Int} {A B r : Int} (h : ∀ k, G k ≤ A * r - B * k) (a b : Nat) (hab : a ≤ b) : tz G b - tz G a ≤ ln A B r b - ln A B r a := by
  obtain ⟨n, rfl⟩ : ∃ n, b = a + n := ⟨b - a, by omega⟩
  clear hab
  induction n with
  | zero => simp
  | succ n ih =>
    rw [tz_step, show ((a + (n + 1) : Nat) : Int) = ((a + n : Nat) : Int) + 1 by omega]
    have s := ln_step A B r ((a + n : Nat) : Int)
    have h1 := h ((a + n : Nat) : Int)
    have h2 := h (((a + n : Nat) : Int) + 1)
    rw [Int.natCast_add] at *
    omega
theorem tz_low {G : Int → Int} {A B r : Int} (a b : Nat) (hab : a ≤ b) (h : ∀ k : Int, a ≤ k → k ≤ b → A * r - B * k ≤ G k) : ln A B r b - ln A B r a ≤ tz G b - tz G a := by
  obtain ⟨n, rfl⟩ : ∃ n, b = a + n := ⟨b - a, by omega⟩
  clear hab
  induction n with
  | zero => simp
  | succ n ih =>
    have i := ih (fun k h1 h2 => h k h1 (by omega))
    rw [tz_step, show ((a + (n + 1) : Nat) : Int) = ((a + n : Nat) : Int) + 1 by omega]
    have s := ln_step A B r ((a + n : Nat) : Int)
    have h1 := h ((a + n : Nat) : Int) (by omega) (by omega)
    have h2 := h (((a + n : Nat) : Int) + 1) (by omega) (by omega)
    rw [Int.natCast_add] at *
    omega
/-- the same, where the last one may miss by e -/
theorem tz_low1 {G : Int → Int} {A B r e : Int} (a b : Nat) (hab : a ≤ b) (he : 0 ≤ e) (h : ∀ k : Int, a ≤ k → k < b → A * r - B * k ≤ G k) (h1 : A * r - B * b ≤ G b + e) : ln A B r b - ln A B r a - e ≤ tz G b - tz G a := by
  by_cases hq : a = b
  · subst hq; omega
  · obtain ⟨c, rfl⟩ : ∃ c, b = c + 1 := ⟨b - 1, by omega⟩
    have i := tz_low (G := G) (A := A) (B := B) (r := r) a c (by omega) (fun k g1 g2 => h k g1 (by omega))
    have s := ln_step A B r (c : Int)
    have h2 := h c (by omega) (by omega)
    have t : tz G (c + 1) = tz G c + (G c + G ((c : Int) + 1)) := rfl
    rw [t]
    rw [Int.natCast_add, Int.natCast_one] at *
    omega
theorem near_down (c r k : Int) (h1 : 100 * k ≤ c * r) (h2 : c * r < 100 * k + 100) : 10000 * (k * k) - 200 * c * (r * k) + c * c * (r * r) ≤ 10000 := by
  have e : 10000 * (k * k) - 200 * c * (r * k) + c * c * (r * r) = (c * r - 100 * k) * (c * r - 100 * k) := by grind
  rw [e]
  have := sq_mono (a := c * r - 100 * k) (b := 100) (by omega) (by omega)
  omega
theorem near_any (c r k : Int) : 0 ≤ 10000 * (k * k) - 200 * c * (r * k) + c * c * (r * r) := by
  have e : 10000 * (k * k) - 200 * c * (r * k) + c * c * (r * r) = (c * r - 100 * k) * (c * r - 100 * k) := by grind
  rw [e]
  by_cases hz : 0 ≤ c * r - 100 * k
  · exact Int.mul_nonneg hz hz
  · rw [← Int.neg_mul_neg]; exact Int.mul_nonneg (by omega) (by omega)

theorem tzU (R : Nat) (h : 96 ≤ R) : tz (gU R) R ≤ 158334 * ((R : Int) * R) + 350000 := by
  have L := fun k => gU_le R k
  have q0 : 0 ≤ (R : Int) * R := Int.mul_nonneg (by omega) (by omega)
  obtain ⟨k0, e0⟩ : ∃ k : Nat, k = 10 * R / 100 := ⟨_, rfl⟩
  have n0 := near_down 10 R k0 (by omega) (by omega)
  obtain ⟨k1, e1⟩ : ∃ k : Nat, k = 33 * R / 100 := ⟨_, rfl⟩
  have n1 := near_down 33 R k1 (by omega) (by omega)
  obtain ⟨k2, e2⟩ : ∃ k : Nat, k = 57 * R / 100 := ⟨_, rfl⟩
  have n2 := near_down 57 R k2 (by omega) (by omega)
  obtain ⟨k3, e3⟩ : ∃ k : Nat, k = 78 * R / 100 := ⟨_, rfl⟩
  have n3 := near_down 78 R k3 (by omega) (by omega)
  obtain ⟨k4, e4⟩ : ∃ k : Nat, k = 92 * R / 100 := ⟨_, rfl⟩
  have n4 := near_down 92 R k4 (by omega) (by omega)
  have t0 := tz_up (G := gU R) (A := 100000) (B := 0) (r := R) (fun k => (L k).1) 0 k0 (by omega)
  have t1 := tz_up (G := gU R) (A := 102000) (B := 20000) (r := R) (fun k => (L k).2.1) k0 k1 (by omega)
  have t2 := tz_up (G := gU R) (A := 111900) (B := 50000) (r := R) (fun k => (L k).2.2.1) k1 k2 (by omega)
  have t3 := tz_up (G := gU R) (A := 134700) (B := 90000) (r := R) (fun k => (L k).2.2.2.1) k2 k3 (by omega)
  have t4 := tz_up (G := gU R) (A := 189300) (B := 160000) (r := R) (fun k => (L k).2.2.2.2.1) k3 k4 (by omega)
  have t5 := tz_up (G := gU R) (A := 364100) (B := 350000) (r := R) (fun k => (L k).2.2.2.2.2) k4 R (by omega)
  simp only [ln] at t0 t1 t2 t3 t4 t5
  simp only [tz, Int.natCast_zero, Int.mul_zero, Int.sub_zero] at t0
  omega
theorem phi_total (R : Nat) (h : 96 ≤ R) : 226 * phiU (gU R) ((R : Int) / 32) R ≤ 35500000 * ((R : Int) * R) := by
  have t := tzU R h
  generalize hd : (R : Int) / 32 = d
  have d1 : 32 * d ≤ R := by omega
  have d2 : (R : Int) ≤ 32 * d + 31 := by omega
  have u1 : gU R R ≤ 14100 * R := by have := (gU_le R R).2.2.2.2.2; omega
  have u2 : 100000 * (R : Int) ≤ gU R d := gU_ge R d _ ⟨by omega, by omega, by omega, by omega, by omega, by omega⟩
  have m1 := Int.mul_le_mul_of_nonneg_left u1 (show 0 ≤ d by omega)
  have m2 := Int.mul_le_mul_of_nonneg_left u2 (show 0 ≤ d by omega)
  rw [Int.mul_left_comm] at m1 m2
  have m3 := Int.mul_le_mul_of_nonneg_right d2 (show (0 : Int) ≤ R by omega)
  rw [Int.add_mul, Int.mul_assoc] at m3
  have m4 := Int.mul_le_mul_of_nonneg_right (show (96 : Int) ≤ R by omega) (show (0 : Int) ≤ R by omega)
  unfold phiU
  rw [Int.toNat_natCast]
  generalize tz (gU R) R = T at *
  generalize d * gU R R = X at *
  generalize d * gU R d = Y at *
  generalize d * (R : Int) = Z at *
  generalize (R : Int) * R = Q at *
  omega

theorem gL_line (r k : Int) (hr : 96 ≤ r) : (0 * r ≤ 100 * k → 100 * k ≤ 22 * r → 100000 * r - 11200 * k ≤ gL r k) ∧ (22 * r ≤ 100 * k → 100 * k ≤ 42 * r → 105016 * r - 34000 * k ≤ gL r k) ∧ (42 * r ≤ 100 * k → 100 * k ≤ 60 * r → 115810 * r - 59700 * k ≤ gL r k) ∧ (60 * r ≤ 100 * k → 100 * k ≤ 75 * r → 135430 * r - 92400 * k ≤ gL r k) ∧ (75 * r ≤ 100 * k → 100 * k ≤ 87 * r → 171355 * r - 140300 * k ≤ gL r k) ∧ (87 * r ≤ 100 * k → 100 * k ≤ 95 * r → 245827 * r - 225900 * k ≤ gL r k) ∧ (95 * r ≤ 100 * k → 100 * k ≤ 99 * r → 437727 * r - 427900 * k ≤ gL r k) ∧ (99 * r ≤ 100 * k → 100 * k ≤ 100 * r → 1410600 * r - 1410600 * k ≤ gL r k) := by
  refine ⟨?_, ?_, ?_, ?_, ?_, ?_, ?_, ?_⟩ <;> intro h1 h2 <;> exact gL_ge r k _ ⟨by omega, by omega, by omega, by omega, by omega, by omega, by omega, by omega, by omega⟩
theorem gL_miss (r k : Int) (hr : 96 ≤ r) : (22 * r ≤ 100 * k → 100 * k < 22 * r + 100 → 100000 * r - 11200 * k ≤ gL r k + 22800) ∧ (42 * r ≤ 100 * k → 100 * k < 42 * r + 100 → 105016 * r - 34000 * k ≤ gL r k + 25700) ∧ (60 * r ≤ 100 * k → 100 * k < 60 * r + 100 → 115810 * r - 59700 * k ≤ gL r k + 32700) ∧ (75 * r ≤ 100 * k → 100 * k < 75 * r + 100 → 135430 * r - 92400 * k ≤ gL r k + 47900) ∧ (87 * r ≤ 100 * k → 100 * k < 87 * r + 100 → 171355 * r - 140300 * k ≤ gL r k + 85600) ∧ (95 * r ≤ 100 * k → 100 * k < 95 * r + 100 → 245827 * r - 225900 * k ≤ gL r k + 202000) ∧ (99 * r ≤ 100 * k → 100 * k < 99 * r + 100 → 437727 * r - 427900 * k ≤ gL r k + 982700) := by
  refine ⟨?_, ?_, ?_, ?_, ?_, ?_, ?_⟩ <;> intro h1 h2 <;> (refine Int.le_add_of_sub_right_le (gL_ge r k _ ⟨by omega, by omega, by omega, by omega, by omega, by omega, by omega, by omega, by omega⟩))
theorem tzL (R : Nat) (h : 96 ≤ R) : 156006 * ((R : Int) * R) - 1410600 ≤ tz (gL R) R := by
  have L := fun k => gL_line R k (by omega)
  have q0 : 0 ≤ (R : Int) * R := Int.mul_nonneg (by omega) (by omega)
  have M := fun k => gL_miss R k (by omega)
  obtain ⟨k0, e0⟩ : ∃ k : Nat, k = (22 * R + 99) / 100 := ⟨_, rfl⟩
  have n0 := near_any 22 R k0
  obtain ⟨k1, e1⟩ : ∃ k : Nat, k = (42 * R + 99) / 100 := ⟨_, rfl⟩
  have n1 := near_any 42 R k1
  obtain ⟨k2, e2⟩ : ∃ k : Nat, k = (60 * R + 99) / 100 := ⟨_, rfl⟩
  have n2 := near_any 60 R k2
  obtain ⟨k3, e3⟩ : ∃ k : Nat, k = (75 * R + 99) / 100 := ⟨_, rfl⟩
  have n3 := near_any 75 R k3
  obtain ⟨k4, e4⟩ : ∃ k : Nat, k = (87 * R + 99) / 100 := ⟨_, rfl⟩
  have n4 := near_any 87 R k4
  obtain ⟨k5, e5⟩ : ∃ k : Nat, k = (95 * R + 99) / 100 := ⟨_, rfl⟩
  have n5 := near_any 95 R k5
  obtain ⟨k6, e6⟩ : ∃ k : Nat, k = (99 * R + 99) / 100 := ⟨_, rfl⟩
  have n6 := near_any 99 R k6
  have t0 := tz_low1 (G := gL R) (A := 100000) (B := 11200) (r := R) (e := 22800) 0 k0 (by omega) (by omega) (fun k g1 g2 => (L k).1 (by omega) (by omega)) ((M k0).1 (by omega) (by omega))
  have t1 := tz_low1 (G := gL R) (A := 105016) (B := 34000) (r := R) (e := 25700) k0 k1 (by omega) (by omega) (fun k g1 g2 => (L k).2.1 (by omega) (by omega)) ((M k1).2.1 (by omega) (by omega))
  have t2 := tz_low1 (G := gL R) (A := 115810) (B := 59700) (r := R) (e := 32700) k1 k2 (by omega) (by omega) (fun k g1 g2 => (L k).2.2.1 (by omega) (by omega)) ((M k2).2.2.1 (by omega) (by omega))
  have t3 := tz_low1 (G := gL R) (A := 135430) (B := 92400) (r := R) (e := 47900) k2 k3 (by omega) (by omega) (fun k g1 g2 => (L k).2.2.2.1 (by omega) (by omega)) ((M k3).2.2.2.1 (by omega) (by omega))
  have t4 := tz_low1 (G := gL R) (A := 171355) (B := 140300) (r := R) (e := 85600) k3 k4 (by omega) (by omega) (fun k g1 g2 => (L k).2.2.2.2.1 (by omega) (by omega)) ((M k4).2.2.2.2.1 (by omega) (by omega))
  have t5 := tz_low1 (G := gL R) (A := 245827) (B := 225900) (r := R) (e := 202000) k4 k5 (by omega) (by omega) (fun k g1 g2 => (L k).2.2.2.2.2.1 (by omega) (by omega)) ((M k5).2.2.2.2.2.1 (by omega) (by omega))
  have t6 := tz_low1 (G := gL R) (A := 437727) (B := 427900) (r := R) (e := 982700) k5 k6 (by omega) (by omega) (fun k g1 g2 => (L k).2.2.2.2.2.2.1 (by omega) (by omega)) ((M k6).2.2.2.2.2.2 (by omega) (by omega))
  have t7 := tz_low (G := gL R) (A := 1410600) (B := 1410600) (r := R) k6 R (by omega) (fun k g1 g2 => (L k).2.2.2.2.2.2.2 (by omega) (by omega))
  simp only [ln] at t0 t1 t2 t3 t4 t5 t6 t7
  simp only [tz, Int.natCast_zero, Int.mul_zero, Int.sub_zero] at t0
  omega
theorem psi_total (R : Nat) (h : 96 ≤ R) : 33300000 * ((R : Int) * R) ≤ 212 * psiL (gL R) ((R : Int) / 32) (100000 * R) R := by
  have t := tzL R h
  generalize hd : (R : Int) / 32 = d
  have d1 : 32 * d ≤ R := by omega
  have d2 : (R : Int) ≤ 32 * d + 31 := by omega
  have d0 : 0 ≤ d := by omega
  have u1 : gL R (R - 2 * d) ≤ 245827 * R - 225900 * (R - 2 * d) := (gL_le R (R - 2 * d)).2.2.2.2.2.2.1
  have u2 : 65900 * (R : Int) ≤ 100000 * R - gL R (R - 2 * d) := by omega
  have m2 := Int.mul_le_mul_of_nonneg_left u2 d0
  rw [Int.mul_left_comm, Int.mul_sub] at m2
  have m3 := Int.mul_le_mul_of_nonneg_right d2 (show (0 : Int) ≤ R by omega)
  rw [Int.add_mul, Int.mul_assoc] at m3
  have m4 := Int.mul_le_mul_of_nonneg_right (show (96 : Int) ≤ R by omega) (show (0 : Int) ≤ R by omega)
  unfold psiL
  rw [Int.toNat_natCast]
  generalize tz (gL R) R = T at *
  generalize d * gL R (R - 2 * d) = X at *
  generalize d * (100000 * (R : Int)) = Y at *
  generalize d * (R : Int) = Z at *
  generalize (R : Int) * R = Q at *
  omega
end Go.Proofs.Ytgjdopjolokaiaa

/- Plain facts: from below a circle to above it the bounds overlap with those of the whole area. No program stands in this text. -/
namespace Go.Proofs.Ytgjdopjolokaiaa

/-! ### small circles: unit strips -/
def sumTo (f : Nat → Int) : Nat → Int
  | 0 => 0
  | n + 1 => sumTo f n + f n
theorem sumTo_same {f g : Nat → Int} (n : Nat) (h : ∀ k, k < n → f k = g k) : sumTo f n = sumTo g n := by
  induction n with
  | zero => rfl
  | succ n ih =>
    show sumTo f n + f n = sumTo g n + g n
    rw [ih (fun k hk => h k (by omega)), h n (by omega)]
noncomputable def unL (r y : Int) : Int := 2 * sumTo (fun k => hcL r (k + 1)) y.toNat
noncomputable def unH (r y : Int) : Int := 2 * sumTo (fun k => hcH r k) y.toNat
theorem un_low (r : Int) (hr : 0 ≤ r) : LowP 1 r 0 (unL r) := by
  have key : ∀ (n a : Nat), 2 * ((n : Int) * hcL r (a + n)) ≤ unL r (a + n) - unL r a := by
    intro n a
    induction n with
    | zero => simp
    | succ n ih =>
      have e : unL r ((a : Int) + ((n + 1 : Nat) : Int)) = unL r (a + n) + 2 * hcL r (a + n + 1) := by
        unfold unL
        rw [show ((a : Int) + ((n + 1 : Nat) : Int)).toNat = a + n + 1 by omega, show ((a : Int) + (n : Int)).toNat = a + n by omega]
        show 2 * (sumTo _ (a + n) + hcL r (((a + n : Nat) : Int) + 1)) = _
        rw [Int.natCast_add]; omega
      have g := (hc_further r (a + n) (a + n + 1) hr (by omega) (by omega)).1
      have m := Int.mul_le_mul_of_nonneg_left g (show (0 : Int) ≤ n by omega)
      rw [e, show (a : Int) + ((n + 1 : Nat) : Int) = a + n + 1 by omega, show ((n + 1 : Nat) : Int) = (n : Int) + 1 by omega, Int.add_mul]
      omega
  have stp : ∀ a b : Int, 0 ≤ a → a ≤ b → 2 * ((b - a) * hcL r b) ≤ unL r b - unL r a := by
    intro a b a0 ab
    obtain ⟨A, rfl⟩ := Int.eq_ofNat_of_zero_le a0
    obtain ⟨n, hn⟩ := Int.eq_ofNat_of_zero_le (show 0 ≤ b - A by omega)
    obtain rfl : b = A + n := by omega
    rw [hn]
    exact key n A
  have z : unL r 0 = 0 := by simp [unL, sumTo]
  refine ⟨fun a b a0 ab _ _ => by rw [Int.one_mul]; exact stp a b a0 ab, fun b b0 _ => ?_, fun a b a0 ab _ => ?_⟩
  · have := stp 0 b (by omega) b0
    rw [z, Int.sub_zero, Int.sub_zero] at this
    rw [Int.one_mul]; exact this
  · have := stp a b a0 ab
    have := Int.mul_nonneg (show 0 ≤ b - a by omega) (hc_le r b hr).1
    omega
theorem un_high (r : Int) (hr : 0 ≤ r) : HighP 1 r 0 (unH r) := by
  have key : ∀ (n a : Nat), unH r (a + n) - unH r a ≤ 2 * ((n : Int) * hcH r a) := by
    intro n a
    induction n with
    | zero => simp
    | succ n ih =>
      have e : unH r ((a : Int) + ((n + 1 : Nat) : Int)) = unH r (a + n) + 2 * hcH r (a + n) := by
        unfold unH
        rw [show ((a : Int) + ((n + 1 : Nat) : Int)).toNat = a + n + 1 by omega, show ((a : Int) + (n : Int)).toNat = a + n by omega]
        show 2 * (sumTo _ (a + n) + hcH r ((a + n : Nat) : Int)) = _
        rw [Int.natCast_add]; omega
      have g := (hc_further r a (a + n) hr (by omega) (by omega)).2
      rw [e, show ((n + 1 : Nat) : Int) = (n : Int) + 1 by omega, Int.add_mul]
      omega
  have stp : ∀ a b : Int, 0 ≤ a → a ≤ b → unH r b - unH r a ≤ 2 * ((b - a) * hcH r a) := by
    intro a b a0 ab
    obtain ⟨A, rfl⟩ := Int.eq_ofNat_of_zero_le a0
    obtain ⟨n, hn⟩ := Int.eq_ofNat_of_zero_le (show 0 ≤ b - A by omega)
    obtain rfl : b = A + n := by omega
    rw [hn]
    exact key n A
  have z : unH r 0 = 0 := by simp [unH, sumTo]
  refine ⟨fun a w a0 ar _ w0 => ?_, fun b b0 => ?_⟩
  · rw [Int.one_mul]
    have := stp a (min (a + w) r) a0 (by omega)
    have g := (hc_le r a hr)
    have := Int.mul_le_mul_of_nonneg_right (show min (a + w) r - a ≤ w by omega) (show 0 ≤ hcH r a by omega)
    omega
  · rw [Int.one_mul]
    have := stp 0 (min b r) (by omega) (by omega)
    rw [z, hcH_zero r hr, Int.sub_zero, Int.sub_zero] at this
    have := Int.mul_le_mul_of_nonneg_right (show min b r ≤ b by omega) hr
    omega

/-- the root of a small number, reckoned -/
def iqs (n : Nat) : Nat → Nat → Nat
  | 0, q => q
  | k + 1, q => if (q + 2 ^ k) * (q + 2 ^ k) ≤ n then iqs n k (q + 2 ^ k) else iqs n k q
theorem iqs_spec (n : Nat) : ∀ (k q : Nat), q * q ≤ n → n < (q + 2 ^ k) * (q + 2 ^ k) → iqs n k q * iqs n k q ≤ n ∧ n < (iqs n k q + 1) * (iqs n k q + 1) := by
  intro k
  induction k with
  | zero => intro q h1 h2; exact ⟨h1, by show n < (q + 1) * (q + 1); simpa using h2⟩
  | succ k ih =>
    intro q h1 h2
    unfold iqs
    by_cases h : (q + 2 ^ k) * (q + 2 ^ k) ≤ n
    · rw [if_pos h]
      refine ih _ h ?_
      rw [show q + 2 ^ k + 2 ^ k = q + 2 ^ (k + 1) by rw [Nat.pow_succ]; omega]; exact h2
    · rw [if_neg h]
      exact ih q h1 (by omega)
def iq (n : Nat) : Nat := iqs n 7 0
def ic (n : Nat) : Nat := if iq n * iq n < n then iq n + 1 else iq n
theorem rt_iq (n : Nat) (h : n < 16384) : rt n = iq n := by
  obtain ⟨h1, h2⟩ := iqs_spec n 7 0 (by omega) (by simpa using h)
  exact rt_of (by omega) (by exact_mod_cast h1) (by exact_mod_cast h2)
theorem ce_ic (n : Nat) (h : n < 16384) : ce n = ic n := by
  unfold ce ic
  rw [rt_iq n h]
  by_cases g : iq n * iq n < n
  · rw [if_pos g, if_pos (by exact_mod_cast g)]; simp
  · rw [if_neg g, if_neg (by exact_mod_cast g)]
def addTo (f : Nat → Nat) : Nat → Nat
  | 0 => 0
  | n + 1 => addTo f n + f n
theorem sum_add (f : Nat → Nat) (n : Nat) : sumTo (fun k => (f k : Int)) n = (addTo f n : Int) := by
  induction n with
  | zero => rfl
  | succ n ih =>
    show sumTo _ n + (f n : Int) = ((addTo f n + f n : Nat) : Int)
    rw [ih, Int.natCast_add]
def smallOk (R : Nat) : Bool := decide (452 * addTo (fun k => iq (R * R - (k + 1) * (k + 1))) R ≤ 355 * (R * R)) && decide (333 * (R * R) < 424 * addTo (fun k => ic (R * R - k * k)) R + 106)
theorem small_ok : ∀ R, R < 96 → smallOk R = true := by decide +kernel
theorem sq_nat {k R : Nat} (h : k ≤ R) : ((R * R - k * k : Nat) : Int) = (R : Int) * R - (k : Int) * k := by
  have := Nat.mul_le_mul h h
  rw [Int.ofNat_sub this, Int.natCast_mul, Int.natCast_mul]
theorem unL_small (R : Nat) (h : R < 96) : 226 * unL R R ≤ 355 * ((R : Int) * R) := by
  have ok := small_ok R h
  simp only [smallOk, Bool.and_eq_true, decide_eq_true_eq] at ok
  have e : sumTo (fun k => hcL R (k + 1)) R = (addTo (fun k => iq (R * R - (k + 1) * (k + 1))) R : Int) := by
    rw [← sum_add]
    refine sumTo_same R fun k hk => ?_
    show hcL R ((k : Int) + 1) = _
    rw [← rt_iq _ (by have := Nat.mul_le_mul (show R ≤ 95 by omega) (show R ≤ 95 by omega); omega), sq_nat (by omega)]
    unfold hcL
    rw [if_neg (by omega), Int.natCast_add, Int.natCast_one]
  unfold unL
  rw [Int.toNat_natCast, e]
  have := ok.1
  have e2 : ((R * R : Nat) : Int) = (R : Int) * R := Int.natCast_mul _ _
  omega
theorem unH_small (R : Nat) (h : R < 96) : 333 * ((R : Int) * R) < 212 * unH R R + 106 := by
  have ok := small_ok R h
  simp only [smallOk, Bool.and_eq_true, decide_eq_true_eq] at ok
  have e : sumTo (fun k => hcH R k) R = (addTo (fun k => ic (R * R - k * k)) R : Int) := by
    rw [← sum_add]
    refine sumTo_same R fun k hk => ?_
    show hcH R (k : Int) = _
    rw [← ce_ic _ (by have := Nat.mul_le_mul (show R ≤ 95 by omega) (show R ≤ 95 by omega); omega), sq_nat (by omega)]
    unfold hcH
    rw [if_neg (by omega)]
  unfold unH
  rw [Int.toNat_natCast, e]
  have := ok.2
  have e2 : ((R * R : Nat) : Int) = (R : Int) * R := Int.natCast_mul _ _
  omega

/-! ### heights of n strips -/
def hs (top : Int) (n : Nat) : List Int := (List.range (n + 1)).map fun (i : Nat) => (i : Int) * top / n
theorem hs_len (top : Int) (n : Nat) : (hs top n).length = n + 1 := by simp [hs]
theorem hs_get (top : Int) (n i : Nat) (h : i ≤ n) : (hs top n).getD i 0 = (i : Int) * top / n := by
  unfold hs
  rw [List.getD_eq_getElem?_getD, List.getElem?_map, List.getElem?_range (by omega)]
  rfl
theorem hs_wide (top : Int) (n i : Nat) (hn : 1 ≤ n) (h : i < n) : top / n ≤ (hs top n).getD (i + 1) 0 - (hs top n).getD i 0 := by
  rw [hs_get _ _ _ (by omega), hs_get _ _ _ (by omega)]
  have e : ((i + 1 : Nat) : Int) * top = i * top + top := by rw [Int.natCast_add, Int.add_mul]; simp
  rw [e]
  have h0 : (0 : Int) < n := by omega
  have a := Int.ediv_mul_le ((i : Int) * top) (show (n : Int) ≠ 0 by omega)
  have b := Int.ediv_mul_le top (show (n : Int) ≠ 0 by omega)
  have : (i : Int) * top / n + top / n ≤ (i * top + top) / n := by
    apply Int.le_ediv_of_mul_le h0
    rw [Int.add_mul]; omega
  omega
theorem hs_right (top : Int) (n : Nat) (hn : 1 ≤ n) (hn2 : n ≤ 64) (h0 : 0 ≤ top) (h1 : top ≤ 200000) : HR (hs top n) := by
  have hp : (0 : Int) < n := by omega
  have hw : 0 ≤ top / n := Int.ediv_nonneg h0 (by omega)
  refine ⟨by rw [hs_len]; omega, by rw [hs_len]; omega, fun i hi => ?_, fun i hi => ?_⟩
  · rw [hs_len] at hi
    rw [hs_get _ _ _ (by omega)]
    refine ⟨Int.ediv_nonneg (Int.mul_nonneg (by omega) h0) (by omega), ?_⟩
    have : (i : Int) * top / n < 200001 := by
      apply Int.ediv_lt_of_lt_mul hp
      have m1 := Int.mul_le_mul_of_nonneg_right (show (i : Int) ≤ n by omega) h0
      have m2 := Int.mul_le_mul_of_nonneg_left h1 (show (0 : Int) ≤ n by omega)
      omega
    omega
  · rw [hs_len] at hi
    have := hs_wide top n i hn (by omega)
    omega
theorem whole (R : Nat) (c : Int) (n : Nat) (hR : R ≤ 100000) (hc : (R : Int) ≤ c) (hc2 : c ≤ 100000) (hn : 1 ≤ n) (hn2 : n ≤ 64) :
    113 * prL R c (hs (c + R) n) n ≤ 355 * ((R : Int) * R) ∧ 333 * ((R : Int) * R) < 106 * prH R c (hs (c + R) n) n + 106 := by
  have hr := hs_right (c + R) n hn hn2 (by omega) (by omega)
  have g0 : (hs (c + R) n).getD 0 0 = 0 := by rw [hs_get _ _ _ (by omega)]; simp
  have gn : (hs (c + R) n).getD n 0 = c + R := by
    rw [hs_get _ _ _ (by omega)]
    exact Int.mul_ediv_cancel_left _ (by omega)
  have wid : ∀ i, i < n → (c + R) / n ≤ (hs (c + R) n).getD (i + 1) 0 - (hs (c + R) n).getD i 0 := fun i hi => hs_wide _ n i hn hi
  have w0 : 0 ≤ (c + R) / n := Int.ediv_nonneg (by omega) (by omega)
  by_cases hs96 : R < 96
  · have l := low_sum (un_low R (by omega)) (by omega) (by omega) c (hs (c + R) n) n (fun i hi => by have := wid i hi; omega)
    have h := high_sum (un_high R (by omega)) (by omega) (by omega) (by simp [unH, sumTo]) c (hs (c + R) n) n (fun i hi => by have := wid i hi; omega)
    rw [g0, gn] at l h
    have e1 : c + R - c = R := by omega
    rw [e1, Int.one_mul] at l h
    have s1 := unL_small R hs96
    have s2 := unH_small R hs96
    have p0 : unL R 0 = 0 := by simp [unL, sumTo]
    have p1 : unH R 0 = 0 := by simp [unH, sumTo]
    rw [od_pos _ _ _ (by omega), show min (R : Int) R = R by omega] at l h
    by_cases hz : c = 0
    · obtain rfl : R = 0 := by omega
      subst hz
      rw [od_pos _ _ _ (by omega)] at l h
      simp at l h ⊢
      omega
    · rw [od_neg _ _ _ (by omega), show min (-(0 - c)) (R : Int) = R by omega] at l h
      omega
  · have d32 : (R : Int) / 32 ≤ (c + R) / n := by
      apply Int.le_ediv_of_mul_le (by omega)
      have m := Int.mul_le_mul_of_nonneg_left (show (n : Int) ≤ 64 by omega) (show 0 ≤ (R : Int) / 32 by omega)
      omega
    have hU : LowP 100000 R ((R : Int) / 32) (phiU (gU R) ((R : Int) / 32)) := by
      refine lowP_of (M := 350000) (gU_conc R) (by omega) (by omega) (by omega) (fun y h1 h2 => hcL_up R y (by omega) h1 h2) (fun k => ?_) ?_
      · have g := gU_le R k
        have := gU_ge R (k + 1) (gU R k - 350000) ⟨by omega, by omega, by omega, by omega, by omega, by omega⟩
        omega
      · have := gU_ge R R (14100 * R) ⟨by omega, by omega, by omega, by omega, by omega, by omega⟩
        omega
    have hL : HighP 100000 R ((R : Int) / 32) (psiL (gL R) ((R : Int) / 32) (100000 * R)) := by
      refine highP_of (gL_conc R) (by omega) (by omega) (by omega) ?_ rfl (fun k hk => ?_) (fun y h1 h2 => hcH_low R y (by omega) h1 h2)
      · exact gL_ge R R 0 ⟨by omega, by omega, by omega, by omega, by omega, by omega, by omega, by omega, by omega⟩
      · have := (gL_le R k).1
        have := gL_ge R k (100000 * R) ⟨by omega, by omega, by omega, by omega, by omega, by omega, by omega, by omega, by omega⟩
        omega
    have l := low_sum hU (by omega) (by omega) c (hs (c + R) n) n (fun i hi => by have := wid i hi; omega)
    have p1 : psiL (gL R) ((R : Int) / 32) (100000 * R) 0 = 0 := by
      have := (gL_le R (0 - 2 * ((R : Int) / 32))).1
      have h2 := gL_ge R (0 - 2 * ((R : Int) / 32)) (100000 * R) ⟨by omega, by omega, by omega, by omega, by omega, by omega, by omega, by omega, by omega⟩
      have e : gL R (0 - 2 * ((R : Int) / 32)) = 100000 * R := by omega
      unfold psiL
      rw [e]; simp [tz]
    have h := high_sum hL (by omega) (by omega) p1 c (hs (c + R) n) n (fun i hi => by have := wid i hi; omega)
    rw [g0, gn] at l h
    have e1 : c + R - c = R := by omega
    rw [e1, od_pos _ _ _ (by omega), od_neg _ _ _ (by omega), show min (-(0 - c)) (R : Int) = R by omega, show min (R : Int) R = R by omega] at l h
    have s1 := phi_total R (by omega)
    have s2 := psi_total R (by omega)
    generalize phiU (gU R) ((R : Int) / 32) R = P at *
    generalize psiL (gL R) ((R : Int) / 32) (100000 * R) R = Q at *
    generalize prL R c (hs (c + R) n) n = X at *
    generalize prH R c (hs (c + R) n) n = Y at *
    omega
end Go.Proofs.Ytgjdopjolokaiaa

/- Plain facts: finer polygons around a circle and in it. No program stands in this text. (Written by m/l6.py.) -/
namespace Go.Proofs.Ytgjdopjolokaiaa

def gV (r k : Int) : Int := (min (100000 * r - 0 * k) (min (101629 * r - 18100 * k) (min (106283 * r - 36000 * k) (min (113745 * r - 54200 * k) (min (124761 * r - 74600 * k) (min (142845 * r - 102000 * k) (min (166481 * r - 133100 * k) (min (217991 * r - 193700 * k) (min (300055 * r - 282900 * k) (567678 * r - 558800 * k))))))))))
theorem gV_conc (r : Int) : Conc (gV r) := ((Conc.lin (100000 * r) 0 (by omega)).min ((Conc.lin (101629 * r) 18100 (by omega)).min ((Conc.lin (106283 * r) 36000 (by omega)).min ((Conc.lin (113745 * r) 54200 (by omega)).min ((Conc.lin (124761 * r) 74600 (by omega)).min ((Conc.lin (142845 * r) 102000 (by omega)).min ((Conc.lin (166481 * r) 133100 (by omega)).min ((Conc.lin (217991 * r) 193700 (by omega)).min ((Conc.lin (300055 * r) 282900 (by omega)).min (Conc.lin (567678 * r) 558800 (by omega)))))))))))
theorem gV_le (r k : Int) : gV r k ≤ 100000 * r - 0 * k ∧ gV r k ≤ 101629 * r - 18100 * k ∧ gV r k ≤ 106283 * r - 36000 * k ∧ gV r k ≤ 113745 * r - 54200 * k ∧ gV r k ≤ 124761 * r - 74600 * k ∧ gV r k ≤ 142845 * r - 102000 * k ∧ gV r k ≤ 166481 * r - 133100 * k ∧ gV r k ≤ 217991 * r - 193700 * k ∧ gV r k ≤ 300055 * r - 282900 * k ∧ gV r k ≤ 567678 * r - 558800 * k := by
  unfold gV
  refine ⟨?_, ?_, ?_, ?_, ?_, ?_, ?_, ?_, ?_, ?_⟩ <;> omega
theorem gV_ge (r k X : Int) (h : X ≤ 100000 * r - 0 * k ∧ X ≤ 101629 * r - 18100 * k ∧ X ≤ 106283 * r - 36000 * k ∧ X ≤ 113745 * r - 54200 * k ∧ X ≤ 124761 * r - 74600 * k ∧ X ≤ 142845 * r - 102000 * k ∧ X ≤ 166481 * r - 133100 * k ∧ X ≤ 217991 * r - 193700 * k ∧ X ≤ 300055 * r - 282900 * k ∧ X ≤ 567678 * r - 558800 * k) : X ≤ gV r k := by
  unfold gV
  omega
def gM (r k : Int) : Int := (min (100000 * r - 0 * k) (min (100000 * r - 5600 * k) (min (101221 * r - 16700 * k) (min (103861 * r - 28700 * k) (min (107953 * r - 41100 * k) (min (113887 * r - 54900 * k) (min (122102 * r - 70400 * k) (min (133820 * r - 89300 * k) (min (149937 * r - 112000 * k) (min (172947 * r - 141500 * k) (min (207117 * r - 181700 * k) (min (256707 * r - 236800 * k) (min (341401 * r - 326900 * k) (min (519105 * r - 510100 * k) (1410600 * r - 1410600 * k)))))))))))))))
theorem gM_conc (r : Int) : Conc (gM r) := ((Conc.lin (100000 * r) 0 (by omega)).min ((Conc.lin (100000 * r) 5600 (by omega)).min ((Conc.lin (101221 * r) 16700 (by omega)).min ((Conc.lin (103861 * r) 28700 (by omega)).min ((Conc.lin (107953 * r) 41100 (by omega)).min ((Conc.lin (113887 * r) 54900 (by omega)).min ((Conc.lin (122102 * r) 70400 (by omega)).min ((Conc.lin (133820 * r) 89300 (by omega)).min ((Conc.lin (149937 * r) 112000 (by omega)).min ((Conc.lin (172947 * r) 141500 (by omega)).min ((Conc.lin (207117 * r) 181700 (by omega)).min ((Conc.lin (256707 * r) 236800 (by omega)).min ((Conc.lin (341401 * r) 326900 (by omega)).min ((Conc.lin (519105 * r) 510100 (by omega)).min (Conc.lin (1410600 * r) 1410600 (by omega))))))))))))))))
theorem gM_le (r k : Int) : gM r k ≤ 100000 * r - 0 * k ∧ gM r k ≤ 100000 * r - 5600 * k ∧ gM r k ≤ 101221 * r - 16700 * k ∧ gM r k ≤ 103861 * r - 28700 * k ∧ gM r k ≤ 107953 * r - 41100 * k ∧ gM r k ≤ 113887 * r - 54900 * k ∧ gM r k ≤ 122102 * r - 70400 * k ∧ gM r k ≤ 133820 * r - 89300 * k ∧ gM r k ≤ 149937 * r - 112000 * k ∧ gM r k ≤ 172947 * r - 141500 * k ∧ gM r k ≤ 207117 * r - 181700 * k ∧ gM r k ≤ 256707 * r - 236800 * k ∧ gM r k ≤ 341401 * r - 326900 * k ∧ gM r k ≤ 519105 * r - 510100 * k ∧ gM r k ≤ 1410600 * r - 1410600 * k := by
  unfold gM
  refine ⟨?_, ?_, ?_, ?_, ?_, ?_, ?_, ?_, ?_, ?_, ?_, ?_, ?_, ?_, ?_⟩ <;> omega
theorem gM_ge (r k X : Int) (h : X ≤ 100000 * r - 0 * k ∧ X ≤ 100000 * r - 5600 * k ∧ X ≤ 101221 * r - 16700 * k ∧ X ≤ 103861 * r - 28700 * k ∧ X ≤ 107953 * r - 41100 * k ∧ X ≤ 113887 * r - 54900 * k ∧ X ≤ 122102 * r - 70400 * k ∧ X ≤ 133820 * r - 89300 * k ∧ X ≤ 149937 * r - 112000 * k ∧ X ≤ 172947 * r - 141500 * k ∧ X ≤ 207117 * r - 181700 * k ∧ X ≤ 256707 * r - 236800 * k ∧ X ≤ 341401 * r - 326900 * k ∧ X ≤ 519105 * r - 510100 * k ∧ X ≤ 1410600 * r - 1410600 * k) : X ≤ gM r k := by
  unfold gM
  omega
theorem hcL_upV (r y : Int) (hr : 0 ≤ r) (h0 : 0 ≤ y) (h1 : y ≤ r) : 100000 * hcL r y ≤ gV r y := by
  have hc := (hc_circle r y (by omega)).1
  refine gV_ge r y _ ⟨tangent 100000 0 100000 _ y r (by omega) (by omega) hr hc, tangent 101629 18100 100000 _ y r (by omega) (by omega) hr hc, tangent 106283 36000 100000 _ y r (by omega) (by omega) hr hc, tangent 113745 54200 100000 _ y r (by omega) (by omega) hr hc, tangent 124761 74600 100000 _ y r (by omega) (by omega) hr hc, tangent 142845 102000 100000 _ y r (by omega) (by omega) hr hc, tangent 166481 133100 100000 _ y r (by omega) (by omega) hr hc, tangent 217991 193700 100000 _ y r (by omega) (by omega) hr hc, tangent 300055 282900 100000 _ y r (by omega) (by omega) hr hc, tangent 567678 558800 100000 _ y r (by omega) (by omega) hr hc⟩
theorem hcH_lowM (r y : Int) (hr : 0 ≤ r) (h0 : 0 ≤ y) (h1 : y ≤ r) : gM r y ≤ 100000 * hcH r y := by
  have hc := (hc_circle r y (by omega)).2
  have hX := (hc_le r y hr)
  obtain ⟨g0, g1, g2, g3, g4, g5, g6, g7, g8, g9, g10, g11, g12, g13, g14⟩ := gM_le r y
  by_cases b0 : 100 * y ≤ 11 * r
  · have := chord_in 100000 100000 5600 0 11 r y (hcH r y) (by omega) (by omega) (by omega) hr (by omega) b0 (by omega) (by omega) (by omega) hc; omega
  by_cases b1 : 100 * y ≤ 22 * r
  · have := chord_in 100000 101221 16700 11 22 r y (hcH r y) (by omega) (by omega) (by omega) hr (by omega) b1 (by omega) (by omega) (by omega) hc; omega
  by_cases b2 : 100 * y ≤ 33 * r
  · have := chord_in 100000 103861 28700 22 33 r y (hcH r y) (by omega) (by omega) (by omega) hr (by omega) b2 (by omega) (by omega) (by omega) hc; omega
  by_cases b3 : 100 * y ≤ 43 * r
  · have := chord_in 100000 107953 41100 33 43 r y (hcH r y) (by omega) (by omega) (by omega) hr (by omega) b3 (by omega) (by omega) (by omega) hc; omega
  by_cases b4 : 100 * y ≤ 53 * r
  · have := chord_in 100000 113887 54900 43 53 r y (hcH r y) (by omega) (by omega) (by omega) hr (by omega) b4 (by omega) (by omega) (by omega) hc; omega
  by_cases b5 : 100 * y ≤ 62 * r
  · have := chord_in 100000 122102 70400 53 62 r y (hcH r y) (by omega) (by omega) (by omega) hr (by omega) b5 (by omega) (by omega) (by omega) hc; omega
  by_cases b6 : 100 * y ≤ 71 * r
  · have := chord_in 100000 133820 89300 62 71 r y (hcH r y) (by omega) (by omega) (by omega) hr (by omega) b6 (by omega) (by omega) (by omega) hc; omega
  by_cases b7 : 100 * y ≤ 78 * r
  · have := chord_in 100000 149937 112000 71 78 r y (hcH r y) (by omega) (by omega) (by omega) hr (by omega) b7 (by omega) (by omega) (by omega) hc; omega
  by_cases b8 : 100 * y ≤ 85 * r
  · have := chord_in 100000 172947 141500 78 85 r y (hcH r y) (by omega) (by omega) (by omega) hr (by omega) b8 (by omega) (by omega) (by omega) hc; omega
  by_cases b9 : 100 * y ≤ 90 * r
  · have := chord_in 100000 207117 181700 85 90 r y (hcH r y) (by omega) (by omega) (by omega) hr (by omega) b9 (by omega) (by omega) (by omega) hc; omega
  by_cases b10 : 100 * y ≤ 94 * r
  · have := chord_in 100000 256707 236800 90 94 r y (hcH r y) (by omega) (by omega) (by omega) hr (by omega) b10 (by omega) (by omega) (by omega) hc; omega
  by_cases b11 : 100 * y ≤ 97 * r
  · have := chord_in 100000 341401 326900 94 97 r y (hcH r y) (by omega) (by omega) (by omega) hr (by omega) b11 (by omega) (by omega) (by omega) hc; omega
  by_cases b12 : 100 * y ≤ 99 * r
  · have := chord_in 100000 519105 510100 97 99 r y (hcH r y) (by omega) (by omega) (by omega) hr (by omega) b12 (by omega) (by omega) (by omega) hc; omega
  have := chord_in 100000 1410600 1410600 99 100 r y (hcH r y) (by omega) (by omega) (by omega) hr (by omega) (by omega) (by omega) (by omega) (by omega) hc; omega
end Go.Proofs.Ytgjdopjolokaiaa

/- Plain facts: what the finer polygons sum to. No program stands in this text. (Written by m/l6.py.) -/
namespace Go.Proofs.Ytgjdopjolokaiaa

theorem tzV (R : Nat) (h : 96 ≤ R) : tz (gV R) R ≤ 157417 * ((R : Int) * R) + 558800 := by
  have L := fun k => gV_le R k
  have q0 : 0 ≤ (R : Int) * R := Int.mul_nonneg (by omega) (by omega)
  obtain ⟨k0, e0⟩ : ∃ k : Nat, k = 9 * R / 100 := ⟨_, rfl⟩
  have n0 := near_down 9 R k0 (by omega) (by omega)
  obtain ⟨k1, e1⟩ : ∃ k : Nat, k = 26 * R / 100 := ⟨_, rfl⟩
  have n1 := near_down 26 R k1 (by omega) (by omega)
  obtain ⟨k2, e2⟩ : ∃ k : Nat, k = 41 * R / 100 := ⟨_, rfl⟩
  have n2 := near_down 41 R k2 (by omega) (by omega)
  obtain ⟨k3, e3⟩ : ∃ k : Nat, k = 54 * R / 100 := ⟨_, rfl⟩
  have n3 := near_down 54 R k3 (by omega) (by omega)
  obtain ⟨k4, e4⟩ : ∃ k : Nat, k = 66 * R / 100 := ⟨_, rfl⟩
  have n4 := near_down 66 R k4 (by omega) (by omega)
  obtain ⟨k5, e5⟩ : ∃ k : Nat, k = 76 * R / 100 := ⟨_, rfl⟩
  have n5 := near_down 76 R k5 (by omega) (by omega)
  obtain ⟨k6, e6⟩ : ∃ k : Nat, k = 85 * R / 100 := ⟨_, rfl⟩
  have n6 := near_down 85 R k6 (by omega) (by omega)
  obtain ⟨k7, e7⟩ : ∃ k : Nat, k = 92 * R / 100 := ⟨_, rfl⟩
  have n7 := near_down 92 R k7 (by omega) (by omega)
  obtain ⟨k8, e8⟩ : ∃ k : Nat, k = 97 * R / 100 := ⟨_, rfl⟩
  have n8 := near_down 97 R k8 (by omega) (by omega)
  have t0 := tz_up (G := gV R) (A := 100000) (B := 0) (r := R) (fun k => (L k).1) 0 k0 (by omega)
  have t1 := tz_up (G := gV R) (A := 101629) (B := 18100) (r := R) (fun k => (L k).2.1) k0 k1 (by omega)
  have t2 := tz_up (G := gV R) (A := 106283) (B := 36000) (r := R) (fun k => (L k).2.2.1) k1 k2 (by omega)
  have t3 := tz_up (G := gV R) (A := 113745) (B := 54200) (r := R) (fun k => (L k).2.2.2.1) k2 k3 (by omega)
  have t4 := tz_up (G := gV R) (A := 124761) (B := 74600) (r := R) (fun k => (L k).2.2.2.2.1) k3 k4 (by omega)
  have t5 := tz_up (G := gV R) (A := 142845) (B := 102000) (r := R) (fun k => (L k).2.2.2.2.2.1) k4 k5 (by omega)
  have t6 := tz_up (G := gV R) (A := 166481) (B := 133100) (r := R) (fun k => (L k).2.2.2.2.2.2.1) k5 k6 (by omega)
  have t7 := tz_up (G := gV R) (A := 217991) (B := 193700) (r := R) (fun k => (L k).2.2.2.2.2.2.2.1) k6 k7 (by omega)
  have t8 := tz_up (G := gV R) (A := 300055) (B := 282900) (r := R) (fun k => (L k).2.2.2.2.2.2.2.2.1) k7 k8 (by omega)
  have t9 := tz_up (G := gV R) (A := 567678) (B := 558800) (r := R) (fun k => (L k).2.2.2.2.2.2.2.2.2) k8 R (by omega)
  simp only [ln] at t0 t1 t2 t3 t4 t5 t6 t7 t8 t9
  simp only [tz, Int.natCast_zero, Int.mul_zero, Int.sub_zero] at t0
  clear e0
  clear e1
  clear e2
  clear e3
  clear e4
  clear e5
  clear e6
  clear e7
  clear e8
  omega
theorem gM_line (r k : Int) (hr : 96 ≤ r) : (0 * r ≤ 100 * k → 100 * k ≤ 11 * r → 100000 * r - 5600 * k ≤ gM r k) ∧ (11 * r ≤ 100 * k → 100 * k ≤ 22 * r → 101221 * r - 16700 * k ≤ gM r k) ∧ (22 * r ≤ 100 * k → 100 * k ≤ 33 * r → 103861 * r - 28700 * k ≤ gM r k) ∧ (33 * r ≤ 100 * k → 100 * k ≤ 43 * r → 107953 * r - 41100 * k ≤ gM r k) ∧ (43 * r ≤ 100 * k → 100 * k ≤ 53 * r → 113887 * r - 54900 * k ≤ gM r k) ∧ (53 * r ≤ 100 * k → 100 * k ≤ 62 * r → 122102 * r - 70400 * k ≤ gM r k) ∧ (62 * r ≤ 100 * k → 100 * k ≤ 71 * r → 133820 * r - 89300 * k ≤ gM r k) ∧ (71 * r ≤ 100 * k → 100 * k ≤ 78 * r → 149937 * r - 112000 * k ≤ gM r k) ∧ (78 * r ≤ 100 * k → 100 * k ≤ 85 * r → 172947 * r - 141500 * k ≤ gM r k) ∧ (85 * r ≤ 100 * k → 100 * k ≤ 90 * r → 207117 * r - 181700 * k ≤ gM r k) ∧ (90 * r ≤ 100 * k → 100 * k ≤ 94 * r → 256707 * r - 236800 * k ≤ gM r k) ∧ (94 * r ≤ 100 * k → 100 * k ≤ 97 * r → 341401 * r - 326900 * k ≤ gM r k) ∧ (97 * r ≤ 100 * k → 100 * k ≤ 99 * r → 519105 * r - 510100 * k ≤ gM r k) ∧ (99 * r ≤ 100 * k → 100 * k ≤ 100 * r → 1410600 * r - 1410600 * k ≤ gM r k) := by
  refine ⟨?_, ?_, ?_, ?_, ?_, ?_, ?_, ?_, ?_, ?_, ?_, ?_, ?_, ?_⟩ <;> intro h1 h2 <;> exact gM_ge r k _ ⟨by omega, by omega, by omega, by omega, by omega, by omega, by omega, by omega, by omega, by omega, by omega, by omega, by omega, by omega, by omega⟩
theorem gM_miss (r k : Int) (hr : 96 ≤ r) : (11 * r ≤ 100 * k → 100 * k < 11 * r + 100 → 100000 * r - 5600 * k ≤ gM r k + 11100) ∧ (22 * r ≤ 100 * k → 100 * k < 22 * r + 100 → 101221 * r - 16700 * k ≤ gM r k + 12000) ∧ (33 * r ≤ 100 * k → 100 * k < 33 * r + 100 → 103861 * r - 28700 * k ≤ gM r k + 12400) ∧ (43 * r ≤ 100 * k → 100 * k < 43 * r + 100 → 107953 * r - 41100 * k ≤ gM r k + 13800) ∧ (53 * r ≤ 100 * k → 100 * k < 53 * r + 100 → 113887 * r - 54900 * k ≤ gM r k + 15500) ∧ (62 * r ≤ 100 * k → 100 * k < 62 * r + 100 → 122102 * r - 70400 * k ≤ gM r k + 18900) ∧ (71 * r ≤ 100 * k → 100 * k < 71 * r + 100 → 133820 * r - 89300 * k ≤ gM r k + 22700) ∧ (78 * r ≤ 100 * k → 100 * k < 78 * r + 100 → 149937 * r - 112000 * k ≤ gM r k + 29500) ∧ (85 * r ≤ 100 * k → 100 * k < 85 * r + 100 → 172947 * r - 141500 * k ≤ gM r k + 40200) ∧ (90 * r ≤ 100 * k → 100 * k < 90 * r + 100 → 207117 * r - 181700 * k ≤ gM r k + 55100) ∧ (94 * r ≤ 100 * k → 100 * k < 94 * r + 100 → 256707 * r - 236800 * k ≤ gM r k + 90100) ∧ (97 * r ≤ 100 * k → 100 * k < 97 * r + 100 → 341401 * r - 326900 * k ≤ gM r k + 183200) ∧ (99 * r ≤ 100 * k → 100 * k < 99 * r + 100 → 519105 * r - 510100 * k ≤ gM r k + 900500) := by
  refine ⟨?_, ?_, ?_, ?_, ?_, ?_, ?_, ?_, ?_, ?_, ?_, ?_, ?_⟩ <;> intro h1 h2 <;> (refine Int.le_add_of_sub_right_le (gM_ge r k _ ⟨by omega, by omega, by omega, by omega, by omega, by omega, by omega, by omega, by omega, by omega, by omega, by omega, by omega, by omega, by omega⟩))
theorem tzM (R : Nat) (h : 96 ≤ R) : 156731 * ((R : Int) * R) - 1410600 ≤ tz (gM R) R := by
  have L := fun k => gM_line R k (by omega)
  have q0 : 0 ≤ (R : Int) * R := Int.mul_nonneg (by omega) (by omega)
  have M := fun k => gM_miss R k (by omega)
  obtain ⟨k0, e0⟩ : ∃ k : Nat, k = (11 * R + 99) / 100 := ⟨_, rfl⟩
  have n0 := near_any 11 R k0
  obtain ⟨k1, e1⟩ : ∃ k : Nat, k = (22 * R + 99) / 100 := ⟨_, rfl⟩
  have n1 := near_any 22 R k1
  obtain ⟨k2, e2⟩ : ∃ k : Nat, k = (33 * R + 99) / 100 := ⟨_, rfl⟩
  have n2 := near_any 33 R k2
  obtain ⟨k3, e3⟩ : ∃ k : Nat, k = (43 * R + 99) / 100 := ⟨_, rfl⟩
  have n3 := near_any 43 R k3
  obtain ⟨k4, e4⟩ : ∃ k : Nat, k = (53 * R + 99) / 100 := ⟨_, rfl⟩
  have n4 := near_any 53 R k4
  obtain ⟨k5, e5⟩ : ∃ k : Nat, k = (62 * R + 99) / 100 := ⟨_, rfl⟩
  have n5 := near_any 62 R k5
  obtain ⟨k6, e6⟩ : ∃ k : Nat, k = (71 * R + 99) / 100 := ⟨_, rfl⟩
  have n6 := near_any 71 R k6
  obtain ⟨k7, e7⟩ : ∃ k : Nat, k = (78 * R + 99) / 100 := ⟨_, rfl⟩
  have n7 := near_any 78 R k7
  obtain ⟨k8, e8⟩ : ∃ k : Nat, k = (85 * R + 99) / 100 := ⟨_, rfl⟩
  have n8 := near_any 85 R k8
  obtain ⟨k9, e9⟩ : ∃ k : Nat, k = (90 * R + 99) / 100 := ⟨_, rfl⟩
  have n9 := near_any 90 R k9
  obtain ⟨k10, e10⟩ : ∃ k : Nat, k = (94 * R + 99) / 100 := ⟨_, rfl⟩
  have n10 := near_any 94 R k10
  obtain ⟨k11, e11⟩ : ∃ k : Nat, k = (97 * R + 99) / 100 := ⟨_, rfl⟩
  have n11 := near_any 97 R k11
  obtain ⟨k12, e12⟩ : ∃ k : Nat, k = (99 * R + 99) / 100 := ⟨_, rfl⟩
  have n12 := near_any 99 R k12
  have t0 := tz_low1 (G := gM R) (A := 100000) (B := 5600) (r := R) (e := 11100) 0 k0 (by omega) (by omega) (fun k g1 g2 => (L k).1 (by omega) (by omega)) ((M k0).1 (by omega) (by omega))
  have t1 := tz_low1 (G := gM R) (A := 101221) (B := 16700) (r := R) (e := 12000) k0 k1 (by omega) (by omega) (fun k g1 g2 => (L k).2.1 (by omega) (by omega)) ((M k1).2.1 (by omega) (by omega))
  have t2 := tz_low1 (G := gM R) (A := 103861) (B := 28700) (r := R) (e := 12400) k1 k2 (by omega) (by omega) (fun k g1 g2 => (L k).2.2.1 (by omega) (by omega)) ((M k2).2.2.1 (by omega) (by omega))
  have t3 := tz_low1 (G := gM R) (A := 107953) (B := 41100) (r := R) (e := 13800) k2 k3 (by omega) (by omega) (fun k g1 g2 => (L k).2.2.2.1 (by omega) (by omega)) ((M k3).2.2.2.1 (by omega) (by omega))
  have t4 := tz_low1 (G := gM R) (A := 113887) (B := 54900) (r := R) (e := 15500) k3 k4 (by omega) (by omega) (fun k g1 g2 => (L k).2.2.2.2.1 (by omega) (by omega)) ((M k4).2.2.2.2.1 (by omega) (by omega))
  have t5 := tz_low1 (G := gM R) (A := 122102) (B := 70400) (r := R) (e := 18900) k4 k5 (by omega) (by omega) (fun k g1 g2 => (L k).2.2.2.2.2.1 (by omega) (by omega)) ((M k5).2.2.2.2.2.1 (by omega) (by omega))
  have t6 := tz_low1 (G := gM R) (A := 133820) (B := 89300) (r := R) (e := 22700) k5 k6 (by omega) (by omega) (fun k g1 g2 => (L k).2.2.2.2.2.2.1 (by omega) (by omega)) ((M k6).2.2.2.2.2.2.1 (by omega) (by omega))
  have t7 := tz_low1 (G := gM R) (A := 149937) (B := 112000) (r := R) (e := 29500) k6 k7 (by omega) (by omega) (fun k g1 g2 => (L k).2.2.2.2.2.2.2.1 (by omega) (by omega)) ((M k7).2.2.2.2.2.2.2.1 (by omega) (by omega))
  have t8 := tz_low1 (G := gM R) (A := 172947) (B := 141500) (r := R) (e := 40200) k7 k8 (by omega) (by omega) (fun k g1 g2 => (L k).2.2.2.2.2.2.2.2.1 (by omega) (by omega)) ((M k8).2.2.2.2.2.2.2.2.1 (by omega) (by omega))
  have t9 := tz_low1 (G := gM R) (A := 207117) (B := 181700) (r := R) (e := 55100) k8 k9 (by omega) (by omega) (fun k g1 g2 => (L k).2.2.2.2.2.2.2.2.2.1 (by omega) (by omega)) ((M k9).2.2.2.2.2.2.2.2.2.1 (by omega) (by omega))
  have t10 := tz_low1 (G := gM R) (A := 256707) (B := 236800) (r := R) (e := 90100) k9 k10 (by omega) (by omega) (fun k g1 g2 => (L k).2.2.2.2.2.2.2.2.2.2.1 (by omega) (by omega)) ((M k10).2.2.2.2.2.2.2.2.2.2.1 (by omega) (by omega))
  have t11 := tz_low1 (G := gM R) (A := 341401) (B := 326900) (r := R) (e := 183200) k10 k11 (by omega) (by omega) (fun k g1 g2 => (L k).2.2.2.2.2.2.2.2.2.2.2.1 (by omega) (by omega)) ((M k11).2.2.2.2.2.2.2.2.2.2.2.1 (by omega) (by omega))
  have t12 := tz_low1 (G := gM R) (A := 519105) (B := 510100) (r := R) (e := 900500) k11 k12 (by omega) (by omega) (fun k g1 g2 => (L k).2.2.2.2.2.2.2.2.2.2.2.2.1 (by omega) (by omega)) ((M k12).2.2.2.2.2.2.2.2.2.2.2.2 (by omega) (by omega))
  have t13 := tz_low (G := gM R) (A := 1410600) (B := 1410600) (r := R) k12 R (by omega) (fun k g1 g2 => (L k).2.2.2.2.2.2.2.2.2.2.2.2.2 (by omega) (by omega))
  simp only [ln] at t0 t1 t2 t3 t4 t5 t6 t7 t8 t9 t10 t11 t12 t13
  simp only [tz, Int.natCast_zero, Int.mul_zero, Int.sub_zero] at t0
  clear e0
  clear e1
  clear e2
  clear e3
  clear e4
  clear e5
  clear e6
  clear e7
  clear e8
  clear e9
  clear e10
  clear e11
  clear e12
  clear L M
  omega
end Go.Proofs.Ytgjdopjolokaiaa

/- Plain facts: two lists of heights, one behind the other, enclose the area of a circle. No program stands in this text. -/
namespace Go.Proofs.Ytgjdopjolokaiaa

def iq2 (n : Nat) : Nat := iqs n 8 0
def ic2 (n : Nat) : Nat := if iq2 n * iq2 n < n then iq2 n + 1 else iq2 n
theorem rt_iq2 (n : Nat) (h : n < 65536) : rt n = iq2 n := by
  obtain ⟨h1, h2⟩ := iqs_spec n 8 0 (by omega) (by simpa using h)
  exact rt_of (by omega) (by exact_mod_cast h1) (by exact_mod_cast h2)
theorem ce_ic2 (n : Nat) (h : n < 65536) : ce n = ic2 n := by
  unfold ce ic2
  rw [rt_iq2 n h]
  by_cases g : iq2 n * iq2 n < n
  · rw [if_pos g, if_pos (by exact_mod_cast g)]; simp
  · rw [if_neg g, if_neg (by exact_mod_cast g)]
def smallOk2 (R : Nat) : Bool := decide (452 * addTo (fun k => iq2 (R * R - (k + 1) * (k + 1))) R ≤ 355 * (R * R)) && decide (333 * (R * R) ≤ 424 * addTo (fun k => ic2 (R * R - k * k)) R)
theorem small_ok2 : ∀ R, R < 160 → smallOk2 R = true := by decide +kernel
theorem unL_small2 (R : Nat) (h : R < 160) : 226 * unL R R ≤ 355 * ((R : Int) * R) := by
  have ok := small_ok2 R h
  simp only [smallOk2, Bool.and_eq_true, decide_eq_true_eq] at ok
  have e : sumTo (fun k => hcL R (k + 1)) R = (addTo (fun k => iq2 (R * R - (k + 1) * (k + 1))) R : Int) := by
    rw [← sum_add]
    refine sumTo_same R fun k hk => ?_
    show hcL R ((k : Int) + 1) = _
    rw [← rt_iq2 _ (by have := Nat.mul_le_mul (show R ≤ 159 by omega) (show R ≤ 159 by omega); omega), sq_nat (by omega)]
    unfold hcL
    rw [if_neg (by omega), Int.natCast_add, Int.natCast_one]
  unfold unL
  rw [Int.toNat_natCast, e]
  have := ok.1
  have e2 : ((R * R : Nat) : Int) = (R : Int) * R := Int.natCast_mul _ _
  omega
theorem unH_small2 (R : Nat) (h : R < 160) : 333 * ((R : Int) * R) ≤ 212 * unH R R := by
  have ok := small_ok2 R h
  simp only [smallOk2, Bool.and_eq_true, decide_eq_true_eq] at ok
  have e : sumTo (fun k => hcH R k) R = (addTo (fun k => ic2 (R * R - k * k)) R : Int) := by
    rw [← sum_add]
    refine sumTo_same R fun k hk => ?_
    show hcH R (k : Int) = _
    rw [← ce_ic2 _ (by have := Nat.mul_le_mul (show R ≤ 159 by omega) (show R ≤ 159 by omega); omega), sq_nat (by omega)]
    unfold hcH
    rw [if_neg (by omega)]
  unfold unH
  rw [Int.toNat_natCast, e]
  have := ok.2
  have e2 : ((R * R : Nat) : Int) = (R : Int) * R := Int.natCast_mul _ _
  omega

/-! ### potentials, of any strips' least width -/
theorem lowV (R : Nat) (h : 96 ≤ R) (d : Int) (d0 : 0 ≤ d) (d1 : 32 * d ≤ R) : LowP 100000 R d (phiU (gV R) d) := by
  refine lowP_of (M := 558800) (gV_conc R) (by omega) (by omega) d0 (fun y h1 h2 => hcL_upV R y (by omega) h1 h2) (fun k => ?_) ?_
  · have g := gV_le R k
    have := gV_ge R (k + 1) (gV R k - 558800) ⟨by omega, by omega, by omega, by omega, by omega, by omega, by omega, by omega, by omega, by omega⟩
    omega
  · have := gV_ge R R (8878 * R) ⟨by omega, by omega, by omega, by omega, by omega, by omega, by omega, by omega, by omega, by omega⟩
    omega
theorem gM_flat (R : Nat) (k : Int) (h : k ≤ 0) : gM R k = 100000 * R := by
  have := (gM_le R k).1
  have h2 := gM_ge R k (100000 * R) ⟨by omega, by omega, by omega, by omega, by omega, by omega, by omega, by omega, by omega, by omega, by omega, by omega, by omega, by omega, by omega⟩
  omega
theorem gM_zero (R : Nat) : 0 ≤ gM R R := gM_ge R R 0 ⟨by omega, by omega, by omega, by omega, by omega, by omega, by omega, by omega, by omega, by omega, by omega, by omega, by omega, by omega, by omega⟩
theorem highM (R : Nat) (d : Int) (d0 : 0 ≤ d) : HighP 100000 R d (psiL (gM R) d (100000 * R)) := by
  by_cases hd : 1 ≤ d
  · exact highP_of (gM_conc R) (by omega) (by omega) hd (gM_zero R) rfl (fun k hk => gM_flat R k hk) (fun y h1 h2 => hcH_lowM R y (by omega) h1 h2)
  · obtain rfl : d = 0 := by omega
    have pull : ∀ w y : Int, 100000 * (2 * (w * y)) = 2 * (w * (100000 * y)) := fun w y => by grind
    have st : ∀ a b : Int, 0 ≤ a → a ≤ b → b ≤ R → tz (gM R) b.toNat - tz (gM R) a.toNat ≤ 2 * ((b - a) * gM R a) := fun a b a0 ab br => by
      have t := (gM_conc R).tangI a b a0 ab
      have hS : 0 ≤ gM R a - gM R (a + 1) := by have := (gM_conc R).dec a; omega
      have m1 := Int.mul_nonneg (Int.mul_nonneg (show 0 ≤ b - a by omega) (show 0 ≤ b - a by omega)) hS
      omega
    have e : ∀ y, psiL (gM R) 0 (100000 * R) y = tz (gM R) y.toNat := fun y => by unfold psiL; simp
    refine ⟨fun a w a0 ar _ w0 => ?_, fun b b0 => ?_⟩
    · rw [e, e, pull]
      have := st a (min (a + w) R) a0 (by omega) (by omega)
      have g0 := (gM_conc R).mono a R ar
      have g1 := gM_zero R
      have m1 := Int.mul_le_mul_of_nonneg_right (show min (a + w) R - a ≤ w by omega) (show 0 ≤ gM R a by omega)
      have m2 := wid_mono w0 (hcH_lowM R a (by omega) a0 ar)
      omega
    · rw [e, pull]
      have := st 0 (min b R) (by omega) (by omega) (by omega)
      rw [gM_flat R 0 (by omega)] at this
      simp only [Int.toNat_zero, tz, Int.sub_zero] at this
      have m1 := Int.mul_le_mul_of_nonneg_right (show min b R ≤ b by omega) (show 0 ≤ 100000 * (R : Int) by omega)
      omega
theorem psi_zero (R : Nat) (d : Int) (d0 : 0 ≤ d) : psiL (gM R) d (100000 * R) 0 = 0 := by
  unfold psiL
  rw [gM_flat R _ (by omega)]
  simp [tz]
end Go.Proofs.Ytgjdopjolokaiaa

/- Plain facts: the strips below a height and those above it, together, enclose the area of a circle. No program stands in this text. -/
namespace Go.Proofs.Ytgjdopjolokaiaa

theorem Conc.drop_mono {G : Int → Int} (h : Conc G) (a b : Int) (hab : a ≤ b) (n : Nat) : G a - G (a + n) ≤ G b - G (b + n) := by
  induction n with
  | zero => simp
  | succ n ih =>
    have s := h.slope' (a + n) (b + n) (by omega)
    rw [show a + ((n + 1 : Nat) : Int) = a + n + 1 by omega, show b + ((n + 1 : Nat) : Int) = b + n + 1 by omega]
    omega
theorem gV_flat (R : Nat) (k : Int) (h : k ≤ 0 ∨ 32 * k ≤ R) : gV R k = 100000 * R := by
  have := (gV_le R k).1
  have h2 := gV_ge R k (100000 * R) ⟨by omega, by omega, by omega, by omega, by omega, by omega, by omega, by omega, by omega, by omega⟩
  omega
theorem phi_zero (R : Nat) (d : Int) (h : 32 * d ≤ R) : phiU (gV R) d 0 = 0 := by
  unfold phiU
  rw [gV_flat R 0 (by omega), gV_flat R d (by omega)]
  simp [tz]
theorem comb_low (R : Nat) (h : 160 ≤ R) (da db m : Int) (a0 : 0 ≤ da) (ab : da ≤ db) (b1 : 32 * db ≤ R) (hs : (R : Int) ≤ 32 * (da + db) + 95) :
    113 * ((phiU (gV R) da R - phiU (gV R) da m) + (phiU (gV R) db R + phiU (gV R) db m)) ≤ 35500000 * ((R : Int) * R) := by
  have t := tzV R (by omega)
  have u1 : gV R R ≤ 8878 * R := by have := (gV_le R R).2.2.2.2.2.2.2.2.2; omega
  have u2 : gV R m ≤ 100000 * R := by have := (gV_le R m).1; omega
  have m1 := Int.mul_le_mul_of_nonneg_left u1 (show 0 ≤ da by omega)
  have m2 := Int.mul_le_mul_of_nonneg_left u1 (show 0 ≤ db by omega)
  have m3 := Int.mul_le_mul_of_nonneg_left u2 (show 0 ≤ db - da by omega)
  have m4 := Int.mul_le_mul_of_nonneg_right hs (show (0 : Int) ≤ R by omega)
  have m5 := Int.mul_le_mul_of_nonneg_right (show (160 : Int) ≤ R by omega) (show (0 : Int) ≤ R by omega)
  have f := gV_flat R db (by omega)
  rw [Int.mul_left_comm] at m1 m2 m3
  rw [Int.sub_mul, Int.sub_mul] at m3
  rw [Int.add_mul, Int.mul_assoc, Int.add_mul] at m4
  unfold phiU
  rw [Int.toNat_natCast, f, Int.mul_left_comm db 100000]
  generalize tz (gV R) R = T at *
  generalize tz (gV R) m.toNat = T2 at *
  generalize da * gV R R = X1 at *
  generalize db * gV R R = X2 at *
  generalize da * gV R m = X3 at *
  generalize db * gV R m = X4 at *
  generalize da * gV R da = X5 at *
  generalize da * (R : Int) = Z1 at *
  generalize db * (R : Int) = Z2 at *
  generalize (R : Int) * R = Q at *
  omega
theorem comb_high (R : Nat) (h : 160 ≤ R) (da db m : Int) (a0 : 0 ≤ da) (ab : da ≤ db) (b1 : 32 * db ≤ R) (hs : (R : Int) ≤ 32 * (da + db) + 95) (hm : m ≤ R) :
    33300000 * ((R : Int) * R) ≤ 106 * ((psiL (gM R) da (100000 * R) R - psiL (gM R) da (100000 * R) m) + (psiL (gM R) db (100000 * R) R + psiL (gM R) db (100000 * R) m)) := by
  have t := tzM R (by omega)
  have g2 : gM R (R - 2 * db) ≤ 34707 * R := by have := (gM_le R (R - 2 * db)).2.2.2.2.2.2.2.2.2.2.2.1; omega
  have hc := (gM_conc R).drop_mono (m - 2 * db) (R - 2 * db) (by omega) (2 * (db - da)).toNat
  rw [show m - 2 * db + ((2 * (db - da)).toNat : Int) = m - 2 * da by omega, show (R : Int) - 2 * db + ((2 * (db - da)).toNat : Int) = R - 2 * da by omega] at hc
  have h2 : gM R (m - 2 * db) ≤ 100000 * R := by have := (gM_le R (m - 2 * db)).1; omega
  have m1 := Int.mul_le_mul_of_nonneg_left hc a0
  have m2 := Int.mul_le_mul_of_nonneg_left h2 (show 0 ≤ db - da by omega)
  have m3 := Int.mul_le_mul_of_nonneg_left g2 (show 0 ≤ da + db by omega)
  have m4 := Int.mul_le_mul_of_nonneg_right hs (show (0 : Int) ≤ R by omega)
  have m5 := Int.mul_le_mul_of_nonneg_right (show (160 : Int) ≤ R by omega) (show (0 : Int) ≤ R by omega)
  rw [Int.mul_sub, Int.mul_sub] at m1
  rw [Int.sub_mul, Int.mul_left_comm, Int.sub_mul] at m2
  rw [Int.add_mul, Int.mul_left_comm, Int.add_mul] at m3
  rw [Int.add_mul, Int.mul_assoc, Int.add_mul] at m4
  unfold psiL
  rw [Int.toNat_natCast, Int.mul_left_comm da 100000, Int.mul_left_comm db 100000]
  generalize tz (gM R) R = T at *
  generalize tz (gM R) m.toNat = T2 at *
  generalize da * gM R (m - 2 * db) = X1 at *
  generalize da * gM R (m - 2 * da) = X2 at *
  generalize da * gM R (R - 2 * db) = X3 at *
  generalize da * gM R (R - 2 * da) = X4 at *
  generalize db * gM R (m - 2 * db) = X5 at *
  generalize db * gM R (R - 2 * db) = X6 at *
  generalize da * (R : Int) = Z1 at *
  generalize db * (R : Int) = Z2 at *
  generalize (R : Int) * R = Q at *
  omega
theorem od_side {F : Int → Int} (r y : Int) (h : y ≤ 0) (hr : 0 ≤ r) (h0 : F 0 = 0) : od F r y = -F (min (-y) r) := by
  by_cases hy : y < 0
  · exact od_neg F r y hy
  · obtain rfl : y = 0 := by omega
    rw [od_pos F r 0 (by omega), show min 0 r = 0 by omega, show min (-0) r = 0 by omega, h0]; rfl
/-- two lists of heights, from 0 to p and on to the top, with strips of at least a 64th -/
structure Two64 (c p : Int) (l1 l2 : List Int) (k1 k2 : Nat) : Prop where
  p0 : 0 ≤ p
  p1 : p ≤ 2 * c
  a0 : l1.getD 0 0 = 0
  a1 : l1.getD k1 0 = p
  b0 : l2.getD 0 0 = p
  b1 : l2.getD k2 0 = 2 * c
  w1 : ∀ i, i < k1 → l1.getD i 0 ≤ l1.getD (i + 1) 0 ∧ p / 64 ≤ l1.getD (i + 1) 0 - l1.getD i 0
  w2 : ∀ i, i < k2 → l2.getD i 0 ≤ l2.getD (i + 1) 0 ∧ (2 * c - p) / 64 ≤ l2.getD (i + 1) 0 - l2.getD i 0
theorem two_low {R : Nat} {c p : Int} {l1 l2 : List Int} {k1 k2 : Nat} (hc : (R : Int) ≤ c) (h : Two64 c p l1 l2 k1 k2) :
    113 * (prL R c l1 k1 + prL R c l2 k2) ≤ 355 * ((R : Int) * R) := by
  obtain ⟨p0, p1, a0, a1, b0, b1, w1, w2⟩ := h
  by_cases hs : R < 160
  · have u := un_low R (by omega)
    have x1 := low_sum u (by omega) (by omega) c l1 k1 (fun i hi => by have := w1 i hi; omega)
    have x2 := low_sum u (by omega) (by omega) c l2 k2 (fun i hi => by have := w2 i hi; omega)
    rw [a0, a1, Int.one_mul] at x1
    rw [b0, b1, Int.one_mul] at x2
    have s1 := unL_small2 R hs
    have z : unL R 0 = 0 := by simp [unL, sumTo]
    rw [od_side (R : Int) (0 - c) (by omega) (by omega) z, show min (-(0 - c)) (R : Int) = R by omega] at x1
    rw [od_pos _ _ (2 * c - c) (by omega), show min (2 * c - c) (R : Int) = R by omega] at x2
    omega
  · by_cases hp : p ≤ c
    · obtain ⟨da, ea⟩ : ∃ d, d = min (p / 64) ((R : Int) / 64 - 1) := ⟨_, rfl⟩
      obtain ⟨db, eb⟩ : ∃ d, d = (R : Int) / 32 - 2 - da := ⟨_, rfl⟩
      have x1 := low_sum (lowV R (by omega) da (by omega) (by omega)) (by omega) (by omega) c l1 k1 (fun i hi => by have := w1 i hi; omega)
      have x2 := low_sum (lowV R (by omega) db (by omega) (by omega)) (by omega) (by omega) c l2 k2 (fun i hi => by have := w2 i hi; omega)
      rw [a0, a1, od_side (R : Int) (0 - c) (by omega) (by omega) (phi_zero R da (by omega)), od_side (R : Int) (p - c) (by omega) (by omega) (phi_zero R da (by omega)), show min (-(0 - c)) (R : Int) = R by omega] at x1
      rw [b0, b1, od_pos _ _ (2 * c - c) (by omega), od_side (R : Int) (p - c) (by omega) (by omega) (phi_zero R db (by omega)), show min (2 * c - c) (R : Int) = R by omega] at x2
      have k := comb_low R (by omega) da db (min (-(p - c)) R) (by omega) (by omega) (by omega) (by omega)
      omega
    · obtain ⟨da, ea⟩ : ∃ d, d = min ((2 * c - p) / 64) ((R : Int) / 64 - 1) := ⟨_, rfl⟩
      obtain ⟨db, eb⟩ : ∃ d, d = (R : Int) / 32 - 2 - da := ⟨_, rfl⟩
      have x1 := low_sum (lowV R (by omega) db (by omega) (by omega)) (by omega) (by omega) c l1 k1 (fun i hi => by have := w1 i hi; omega)
      have x2 := low_sum (lowV R (by omega) da (by omega) (by omega)) (by omega) (by omega) c l2 k2 (fun i hi => by have := w2 i hi; omega)
      rw [a0, a1, od_side (R : Int) (0 - c) (by omega) (by omega) (phi_zero R db (by omega)), od_pos _ _ (p - c) (by omega), show min (-(0 - c)) (R : Int) = R by omega] at x1
      rw [b0, b1, od_pos _ _ (2 * c - c) (by omega), od_pos _ _ (p - c) (by omega), show min (2 * c - c) (R : Int) = R by omega] at x2
      have k := comb_low R (by omega) da db (min (p - c) R) (by omega) (by omega) (by omega) (by omega)
      omega
theorem two_high {R : Nat} {c p : Int} {l1 l2 : List Int} {k1 k2 : Nat} (hc : (R : Int) ≤ c) (h : Two64 c p l1 l2 k1 k2) :
    333 * ((R : Int) * R) ≤ 106 * (prH R c l1 k1 + prH R c l2 k2) := by
  obtain ⟨p0, p1, a0, a1, b0, b1, w1, w2⟩ := h
  by_cases hs : R < 160
  · have u := un_high R (by omega)
    have z : unH R 0 = 0 := by simp [unH, sumTo]
    have x1 := high_sum u (by omega) (by omega) z c l1 k1 (fun i hi => by have := w1 i hi; omega)
    have x2 := high_sum u (by omega) (by omega) z c l2 k2 (fun i hi => by have := w2 i hi; omega)
    rw [a0, a1, Int.one_mul] at x1
    rw [b0, b1, Int.one_mul] at x2
    have s1 := unH_small2 R hs
    rw [od_side (R : Int) (0 - c) (by omega) (by omega) z, show min (-(0 - c)) (R : Int) = R by omega] at x1
    rw [od_pos _ _ (2 * c - c) (by omega), show min (2 * c - c) (R : Int) = R by omega] at x2
    omega
  · by_cases hp : p ≤ c
    · obtain ⟨da, ea⟩ : ∃ d, d = min (p / 64) ((R : Int) / 64 - 1) := ⟨_, rfl⟩
      obtain ⟨db, eb⟩ : ∃ d, d = (R : Int) / 32 - 2 - da := ⟨_, rfl⟩
      have x1 := high_sum (highM R da (by omega)) (by omega) (by omega) (psi_zero R da (by omega)) c l1 k1 (fun i hi => by have := w1 i hi; omega)
      have x2 := high_sum (highM R db (by omega)) (by omega) (by omega) (psi_zero R db (by omega)) c l2 k2 (fun i hi => by have := w2 i hi; omega)
      rw [a0, a1, od_side (R : Int) (0 - c) (by omega) (by omega) (psi_zero R da (by omega)), od_side (R : Int) (p - c) (by omega) (by omega) (psi_zero R da (by omega)), show min (-(0 - c)) (R : Int) = R by omega] at x1
      rw [b0, b1, od_pos _ _ (2 * c - c) (by omega), od_side (R : Int) (p - c) (by omega) (by omega) (psi_zero R db (by omega)), show min (2 * c - c) (R : Int) = R by omega] at x2
      have k := comb_high R (by omega) da db (min (-(p - c)) R) (by omega) (by omega) (by omega) (by omega) (by omega)
      omega
    · obtain ⟨da, ea⟩ : ∃ d, d = min ((2 * c - p) / 64) ((R : Int) / 64 - 1) := ⟨_, rfl⟩
      obtain ⟨db, eb⟩ : ∃ d, d = (R : Int) / 32 - 2 - da := ⟨_, rfl⟩
      have x1 := high_sum (highM R db (by omega)) (by omega) (by omega) (psi_zero R db (by omega)) c l1 k1 (fun i hi => by have := w1 i hi; omega)
      have x2 := high_sum (highM R da (by omega)) (by omega) (by omega) (psi_zero R da (by omega)) c l2 k2 (fun i hi => by have := w2 i hi; omega)
      rw [a0, a1, od_side (R : Int) (0 - c) (by omega) (by omega) (psi_zero R db (by omega)), od_pos _ _ (p - c) (by omega), show min (-(0 - c)) (R : Int) = R by omega] at x1
      rw [b0, b1, od_pos _ _ (2 * c - c) (by omega), od_pos _ _ (p - c) (by omega), show min (2 * c - c) (R : Int) = R by omega] at x2
      have k := comb_high R (by omega) da db (min (p - c) R) (by omega) (by omega) (by omega) (by omega) (by omega)
      omega
end Go.Proofs.Ytgjdopjolokaiaa

/- Plain facts of layer 11: wet and dry space together; nothing at the dip 0; cylinders. No program stands in this text. -/
namespace Go.Proofs.Ytgjdopjolokaiaa

theorem tog_both {l : List (Int × Int)} {ps h1 h2 : List Int} {p : Int} {k1 k2 : Nat} (hR : RP l) (hP : PlR l ps) (h : Two64 (bgR l) p h1 h2 k1 k2) (k : Nat) (hk : k < ps.length) :
    339 * (tbL l (bgR l) ps h1 k1 k + tbL l (bgR l) ps h2 k2 k) ≤ 355 * enL l ps k ∧ 333 * enH l ps k ≤ 318 * (tbH l (bgR l) ps h1 k1 k + tbH l (bgR l) ps h2 k2 k) := by
  induction k with
  | zero => simp [tbL, tbH, enL, enH]
  | succ k ih =>
    obtain ⟨i1, i2⟩ := ih (by omega)
    obtain ⟨⟨w0, w1⟩, s0, s1, s2, s3⟩ := hP.slice hR hk
    obtain ⟨r, er⟩ : ∃ r : Nat, (r : Int) = slL l (ps.getD k 0) (ps.getD (k + 1) 0) := ⟨(slL l (ps.getD k 0) (ps.getD (k + 1) 0)).toNat, by omega⟩
    obtain ⟨s, es⟩ : ∃ s : Nat, (s : Int) = slH l (ps.getD k 0) (ps.getD (k + 1) 0) := ⟨(slH l (ps.getD k 0) (ps.getD (k + 1) 0)).toNat, by omega⟩
    have t1 := two_low (R := r) (by omega) h
    have t2 := two_high (R := s) (by omega) h
    have m1 := Int.mul_le_mul_of_nonneg_left t1 (show 0 ≤ ps.getD (k + 1) 0 - ps.getD k 0 by omega)
    have m2 := Int.mul_le_mul_of_nonneg_left t2 (show 0 ≤ ps.getD (k + 1) 0 - ps.getD k 0 by omega)
    unfold tbL tbH enL enH
    rw [← er, ← es]
    rw [Int.mul_left_comm, Int.mul_add, Int.mul_left_comm _ 355] at m1
    rw [Int.mul_left_comm, Int.mul_left_comm _ 106, Int.mul_add] at m2
    omega
theorem tog_full {l : List (Int × Int)} {ps h1 h2 : List Int} {p : Int} {k1 k2 : Nat} (hR : RP l) (hP : PlR l ps) (h : Two64 (bgR l) p h1 h2 k1 k2) :
    tbL l (bgR l) ps h1 k1 (ps.length - 1) + tbL l (bgR l) ps h2 k2 (ps.length - 1) ≤ cbH (frS l) ∧ cbL (frS l) ≤ tbH l (bgR l) ps h1 k1 (ps.length - 1) + tbH l (bgR l) ps h2 k2 (ps.length - 1) := by
  obtain ⟨a, b⟩ := tog_both hR hP h (ps.length - 1) (by have := hP.n0; omega)
  obtain ⟨c, d⟩ := en_whole hR hP
  unfold cbL cbH
  omega
/-- heights of a dip and those above it -/
def hd (dip top : Int) (n : Nat) : List Int := (hs (top - dip) n).map (· + dip)
theorem hd_get (dip top : Int) (n i : Nat) (h : i ≤ n) : (hd dip top n).getD i 0 = (i : Int) * (top - dip) / n + dip := by
  unfold hd
  rw [List.getD_eq_getElem?_getD, List.getElem?_map]
  have e := hs_get (top - dip) n i h
  rw [List.getD_eq_getElem?_getD] at e
  rw [List.getElem?_eq_getElem (by rw [hs_len]; omega)] at e ⊢
  simp only [Option.map_some, Option.getD_some] at e ⊢
  rw [e]
theorem hd_len (dip top : Int) (n : Nat) : (hd dip top n).length = n + 1 := by unfold hd; rw [List.length_map, hs_len]
theorem div64 {t : Int} {n : Nat} (h0 : 0 ≤ t) (hn : 1 ≤ n) (hn2 : n ≤ 64) : t / 64 ≤ t / n := by
  apply Int.le_ediv_of_mul_le (by omega)
  have m := Int.mul_le_mul_of_nonneg_left (show (n : Int) ≤ 64 by omega) (show 0 ≤ t / 64 by omega)
  omega
theorem wet_dry {c p : Int} {n : Nat} (p0 : 0 ≤ p) (p1 : p ≤ 2 * c) (hn : 1 ≤ n) (hn2 : n ≤ 64) : Two64 c p (hs p n) (hd p (2 * c) n) n n := by
  refine ⟨p0, p1, ?_, ?_, ?_, ?_, fun i hi => ?_, fun i hi => ?_⟩
  · rw [hs_get _ _ _ (by omega)]; simp
  · rw [hs_get _ _ _ (by omega)]; exact Int.mul_ediv_cancel_left _ (by omega)
  · rw [hd_get _ _ _ _ (by omega)]; simp
  · rw [hd_get _ _ _ _ (by omega), Int.mul_ediv_cancel_left _ (by omega)]; omega
  · have w := hs_wide p n i hn hi
    have d := div64 p0 hn hn2
    have z : 0 ≤ p / n := Int.ediv_nonneg p0 (by omega)
    omega
  · have w := hs_wide (2 * c - p) n i hn hi
    have d := div64 (t := 2 * c - p) (by omega) hn hn2
    have z : 0 ≤ (2 * c - p) / n := Int.ediv_nonneg (by omega) (by omega)
    rw [hs_get _ _ _ (by omega), hs_get _ _ _ (by omega)] at w
    rw [hd_get _ _ _ _ (by omega), hd_get _ _ _ _ (by omega)]
    omega
theorem hd_right {c p : Int} {n : Nat} (p0 : 0 ≤ p) (p1 : p ≤ 2 * c) (c1 : c ≤ 100000) (hn : 1 ≤ n) (hn2 : n ≤ 64) : HR (hd p (2 * c) n) := by
  have a := hs_right (2 * c - p) n hn hn2 (by omega) (by omega)
  have lo : ∀ i, i ≤ n → 0 ≤ (i : Int) * (2 * c - p) / n ∧ (i : Int) * (2 * c - p) / n ≤ 2 * c - p := fun i hi => by
    constructor
    · exact Int.ediv_nonneg (Int.mul_nonneg (by omega) (by omega)) (by omega)
    · apply Int.ediv_le_of_le_mul (by omega)
      rw [Int.mul_comm (2 * c - p)]
      exact Int.mul_le_mul_of_nonneg_right (by omega) (by omega)
  refine ⟨by rw [hd_len]; omega, by rw [hd_len]; omega, fun i hi => ?_, fun i hi => ?_⟩
  · rw [hd_len] at hi
    rw [hd_get _ _ _ _ (by omega)]
    have := lo i (by omega)
    omega
  · rw [hd_len] at hi
    have := a.asc i (by rw [hs_len]; omega)
    rw [hs_get _ _ _ (by omega), hs_get _ _ _ (by omega)] at this
    rw [hd_get _ _ _ _ (by omega), hd_get _ _ _ _ (by omega)]
    omega
/-- heights that are all the same -/
theorem pr_flat {r c a : Int} {hs : List Int} (k : Nat) (h : ∀ i, i ≤ k → hs.getD i 0 = a) : prL r c hs k = 0 ∧ prH r c hs k = 0 := by
  induction k with
  | zero => simp [prL, prH]
  | succ k ih =>
    obtain ⟨e1, e2⟩ := ih (fun i hi => h i (by omega))
    unfold prL prH ofL ofH
    rw [e1, e2, h k (by omega), h (k + 1) (by omega)]
    simp
theorem tb_flat {l : List (Int × Int)} {c a : Int} {ps hs : List Int} (j : Nat) (h : ∀ i, i ≤ j → hs.getD i 0 = a) (k : Nat) : tbL l c ps hs j k = 0 ∧ tbH l c ps hs j k = 0 := by
  induction k with
  | zero => simp [tbL, tbH]
  | succ k ih =>
    unfold tbL tbH
    rw [ih.1, ih.2, (pr_flat j h).1, (pr_flat j h).2]
    simp
theorem hs_zero (n i : Nat) (h : i ≤ n) : (hs 0 n).getD i 0 = 0 := by rw [hs_get _ _ _ h]; simp
/-- a cylinder -/
theorem rd_cyl {X r x : Int} (hX : 0 < X ∧ X ≤ 100000) (hr : 1 ≤ r ∧ r ≤ 100000) (x0 : 0 ≤ x) (x1 : x ≤ X) (hR : RP [(0, r), (X, r)]) : rdL [(0, r), (X, r)] x = r ∧ rdH [(0, r), (X, r)] x = r := by
  obtain ⟨e1, e2⟩ := rd_piece hR (k := 0) (by simp) (x := x) x0 x1
  have e : ∀ y, lnN 0 r X r y = r * (X - 0) := fun y => by unfold lnN; simp
  have g : gX [(0, r), (X, r)] 0 = 0 ∧ gX [(0, r), (X, r)] (0 + 1) = X ∧ gR [(0, r), (X, r)] 0 = r ∧ gR [(0, r), (X, r)] (0 + 1) = r := ⟨rfl, rfl, rfl, rfl⟩
  rw [g.1, g.2.1, g.2.2.1, g.2.2.2] at e1 e2
  rw [e1, e2]
  unfold lnL lnH
  rw [e, fl_int _ _ (by omega), cl_int _ _ (by omega)]
  exact ⟨rfl, rfl⟩
theorem tb_cyl {X r : Int} {ps hs : List Int} {c : Int} (hX : 0 < X ∧ X ≤ 100000) (hr : 1 ≤ r ∧ r ≤ 100000) (hR : RP [(0, r), (X, r)]) (hP : PlR [(0, r), (X, r)] ps) (j k : Nat) (hk : k < ps.length) :
    tbL [(0, r), (X, r)] c ps hs j k = ps.getD k 0 * prL r c hs j ∧ tbH [(0, r), (X, r)] c ps hs j k = ps.getD k 0 * prH r c hs j := by
  induction k with
  | zero => rw [hP.z]; simp [tbL, tbH]
  | succ k ih =>
    obtain ⟨e1, e2⟩ := ih (by omega)
    have b0 := hP.bd (show k < ps.length by omega)
    have b1 := hP.bd hk
    have gl : gX [(0, r), (X, r)] ([(0, r), (X, r)].length - 1) = X := rfl
    rw [gl] at b0 b1
    obtain ⟨u1, u2⟩ := rd_cyl hX hr b0.1 b0.2 hR
    obtain ⟨v1, v2⟩ := rd_cyl hX hr b1.1 b1.2 hR
    unfold tbL tbH slL slH
    rw [u1, u2, v1, v2, e1, e2, show min r r = r by omega, show max r r = r by omega, ← Int.add_mul, ← Int.add_mul, show ps.getD k 0 + (ps.getD (k + 1) 0 - ps.getD k 0) = ps.getD (k + 1) 0 by omega]
    exact ⟨rfl, rfl⟩
end Go.Proofs.Ytgjdopjolokaiaa

/- Slices that read as lists of points: copies. -/
namespace Go.Proofs.Ytgjdopjolokaiaa
open Go.RowKit Go.Sort

set_option maxRecDepth 100000 in
set_option maxHeartbeats 2000000 in
theorem clone_some (ad : Addr) (n c : Nat) (news : List Value) (w : World) (hl : news.length = n * 2) (hn : n ≤ 1000)
    (hc : Hid (∀ j u, news[j]? = some u → (w.alloc (.cells #[] 33)).cell? (ad.add j) = some u)) (h1 : Hid (∀ u ∈ news, u.oneCell' = true)) :
    Calls Try.prog 11 #[.slice (some ad) n c] w fun e w' => ∃ v', e = .returned v' ∧ w'.ownsRow w.heap.size 33 2 v' n news ∧ v' ≠ .slice none 0 0 ∧ Below w.heap.size w w' := by
  obtain ⟨i0, hi0, hz0, hz1, hz2⟩ := info_parts pt_info
  have q22 : ∀ (w : World) (a : Option Addr) (n c n' c' : Nat), (binOp .eql 22 (.slice a n c) (.slice none n' c')).run Try.prog w = .ok (.bool a.isNone) w := fun w a n c n' c' => Lib.run_eql_slice_nil w _ _ a n c n' c' Try.underlying22
  go_enter Try.func11, Try.ntmps11
  go_wp2_with (at_builtin; refine wpList_append_own _ rfl _ _ 22 rfl w.heap.size 33 i0 (.agg #[.int .i64 0, .int .i64 0]) 2 16 Try.underlying22 hi0 hz0 hz1 hz2 rfl (by omega) _ _ _ rfl (World.ownsRow_made w #[] 0 (Nat.le_refl _) (Nat.zero_le _) (by simp)) ad n c news rfl ?qc1 ?qc2 ?qc3 ?qc4 ?qc5 ?qc6 ?_)
  case qc1 => exact hl
  case qc2 => exact hc.out
  case qc3 => exact h1.out
  case qc4 => rw [Nat.zero_add]; unfold maxLen; omega
  case qc5 => rw [Nat.zero_add]; omega
  case qc6 => simp
  intro v' w1 hown hgrow hnil
  have HO := Lib.hid hown
  have HG := Lib.hid hgrow
  have HN := Lib.hid hnil
  clear hown hgrow hnil hl
  go_wp2
  go_ret
  refine ⟨v', rfl, by simpa using HO.out, ?_, ?_⟩
  · exact HN.out
  · exact ((Below.refl _ w).alloc (Nat.le_refl _) _).grown HG.out (by simp) (by intro k hk; simp [Value.ownBlock] at hk; omega)
set_option maxRecDepth 100000 in
theorem clone_none (n c : Nat) (w : World) :
    Calls Try.prog 11 #[.slice none n c] w fun e w' => e = .returned (.slice none 0 0) ∧ w' = w := by
  have q22 : ∀ (w : World) (a : Option Addr) (n c n' c' : Nat), (binOp .eql 22 (.slice a n c) (.slice none n' c')).run Try.prog w = .ok (.bool a.isNone) w := fun w a n c n' c' => Lib.run_eql_slice_nil w _ _ a n c n' c' Try.underlying22
  go_enter Try.func11, Try.ntmps11
  go_wp2
  go_ret
  exact ⟨rfl, rfl⟩
/-- a copy reads as what it is copied from -/
theorem clone_p (v : Value) (l : List (Int × Int)) (w : World) (h : Pts w v l) (hn : l.length ≤ 1000) :
    Calls Try.prog 11 #[v] w fun e w' => ∃ u, e = .returned u ∧ Pts w' u l ∧ Below w.heap.size w w' := by
  obtain ⟨a, c, rfl, hl, h⟩ := h
  cases a with
  | none =>
    rcases h with h | ⟨b, off, hx, _⟩
    · obtain rfl := List.length_eq_zero_iff.1 h
      refine (clone_none _ c w).mono fun _ w' g => ⟨_, g.1, ?_, by rw [g.2]; exact Below.refl _ _⟩
      exact pts_nil w'
    · cases hx
  | some ad =>
    refine (clone_some ad l.length c (flat l) w (flat_len l) hn ?_ (flat_one l)).mono fun _ w' ⟨u, g1, g2, _, g4⟩ => ⟨u, g1, OwnP.pts (show OwnP w' w.heap.size u l from g2), g4⟩
    intro j u hj
    rcases h with h | ⟨b, off, hx, hb, hc⟩
    · obtain rfl := List.length_eq_zero_iff.1 h
      simp [flat] at hj
    · obtain rfl := Option.some.inj hx
      obtain ⟨i, hi, ⟨rfl, rfl⟩ | ⟨rfl, rfl⟩⟩ := flat_inv l j u hj
      · rw [Go.WideShapes.add_plain, World.cell?_alloc_lt w _ _ hb]
        exact (hc i hi).1
      · rw [Go.WideShapes.add_plain, World.cell?_alloc_lt w _ _ hb, ← Nat.add_assoc]
        exact (hc i hi).2
end Go.Proofs.Ytgjdopjolokaiaa

/- A range over an iterator that stores into boxes of its own between two rounds; every round goes on. -/
namespace Go.Proofs.Ytgjdopjolokaiaa
open Go Go.RowKit

/-- all blocks but G lie as they lay -/
def KeepB (G : Nat) (A B : World) : Prop := A.heap.size ≤ B.heap.size ∧ ∀ k, k < A.heap.size → k ≠ G → B.heap[k]? = A.heap[k]?
theorem keepB_refl (G : Nat) (A : World) : KeepB G A A := ⟨Nat.le_refl _, fun _ _ _ => rfl⟩
theorem keepB_t {G : Nat} {A B C : World} (h : KeepB G A B) (k : KeepB G B C) : KeepB G A C := ⟨Nat.le_trans h.1 k.1, fun i hi hg => (k.2 i (Nat.lt_of_lt_of_le hi h.1) hg).trans (h.2 i hi hg)⟩

/-- the iterator's word: what J says is kept by whatever is laid or turned above the start; all of L is yielded -/
def SeqAll {α : Type} (F : Fence) (n : Nat) (P : Program) (g : Nat) (lb : Array Value) (encs : α → Array Value) (G : Nat) (L : List α) (w : World) : Prop :=
  ∀ (l : Nat) (J : List α → World → Prop) (W : World), Below w.heap.size w W →
    (∀ s A B row, J s A → A.grownBy B row → (∀ r, row = some r → W.heap.size ≤ r) → J s B) →
    (∀ pre x rest W1, L = pre ++ x :: rest → J pre W1 → YieldAt F (n - 1) P l (encs x) W1 fun e W' => e = .returned (.bool true) ∧ J (pre ++ [x]) W' ∧ KeepB G W1 W') →
    J [] W →
    CallsIn F n P g (#[.func (.yield l) #[] #[]] ++ lb) W fun e W' => (∃ v, e = .returned v) ∧ J L W'

/-- how a round is left -/
def allPost {α : Type} (G : Nat) (I : List α → World → Prop) (xs : List α) (W : World) : Exit → Act → World → Prop
  | .normal, _, W' => KeepB G W W' ∧ I xs W'
  | .ret, _, _ => False
  | .exit _, _, _ => False
  | .goto _, _, _ => False
  | .panic _, _, _ => False
  | .outgrown, _, _ => False

theorem wpIn_rangeFunc_all {α : Type} {F : Fence} {n : Nat} {P : Program} {g : Operand} {ps : Array Tmp} {assign body : Code} {Q : Exit → Act → World → Prop} {a : Act} {w : World}
    (hro : F.round = none) (h1 : 1 ≤ n) {gf : Nat} {lb : Array Value} (hg : a.eval g = .func (.func gf) #[] lb) (hFg : F.fn gf) (eg : ∀ args w, (callFunc gf args).run P w = .ok (.enter gf args) w)
    {encs : α → Array Value} {G : Nat} {L : List α} (hseq : SeqAll F (n - 1) P gf lb encs G L w) (hG : G < w.heap.size) (hps : ∀ x, (encs x).size = ps.size)
    (I : List α → World → Prop)
    (hI : ∀ s A B row, I s A → A.grownBy B row → (∀ r, row = some r → w.heap.size ≤ r) → I s B)
    (h0 : I [] w) (Ax : α → Act → World → Prop)
    (hAx : ∀ x a' A B, Ax x a' A → A.grownBy B (some (w.heap.size + 1)) → (∃ o : Obj, A.heap[w.heap.size + 1]? = some o ∧ o.isCells = false) → Ax x a' B)
    (hassign : ∀ (l : Nat) (pre : List α) (x : α) (W : World) (K : Act → World → Prop), I pre W → w.heap.size + 1 < W.heap.size → (∀ a' W', Below W.heap.size W W' → I pre W' → Ax x a' W' → K a' W') →
      assign.wpIn (F.inRound l) (n - 1 - 1) P (Exit.then K (fun _ _ _ => False)) { tmps := (ps.zip (encs x)).foldl (fun t (p, v) => t.setIfInBounds p v) a.tmps, defers := [] } W)
    (hbody : ∀ (l : Nat) (pre : List α) (x : α) (rest : List α) (a' : Act) (W : World), L = pre ++ x :: rest → w.heap.size + 1 < W.heap.size → I pre W → Ax x a' W → body.wpIn (F.inRound l) (n - 1 - 1) P (allPost G I (pre ++ [x]) W) a' W)
    (hdone : ∀ (W : World), I L W → W.heap[w.heap.size]? = some (.deferred (some [])) → Q .normal { a with defers := { target := .collected w.heap.size, args := #[] } :: a.defers } W) :
    (Code.rangeFunc g ps assign body).wpIn F n P Q a w := by
  refine wpIn_rangeFunc ?_
  intro fn hfn
  rw [hro]
  obtain ⟨rec, hrec⟩ : ∃ rec : LoopState → Option Code → Loop, rec = fun st pe => { state := st, pending := pe, fn, tmps := a.tmps, params := ps, assign, body, defers := w.heap.size } := ⟨_, rfl⟩
  obtain ⟨W1, hW1⟩ : ∃ W1, (w.alloc (.deferred (some []))).alloc (.loop (rec .ready none)) = W1 := ⟨_, rfl⟩
  have hL1 : W1.heap[w.heap.size + 1]? = some (.loop (rec .ready none)) := by
    rw [← hW1]; have := World.alloc_heap_new (w.alloc (.deferred (some []))) (.loop (rec .ready none)); rwa [World.size_alloc] at this
  have hK1 : W1.heap[w.heap.size]? = some (.deferred (some [])) := by
    rw [← hW1]; exact (Below.heap_alloc _ _ _ (by simp)).trans (World.alloc_heap_new w _)
  have hI1 : I [] W1 := by
    rw [← hW1]
    exact hI _ _ _ none (hI _ _ _ none h0 (World.grownBy_alloc w _ none) (fun r e => by cases e)) (World.grownBy_alloc _ _ none) (fun r e => by cases e)
  have hb1 : Below w.heap.size w W1 := by
    rw [← hW1]
    exact ((Below.refl _ w).alloc (Nat.le_refl _) _).alloc (by simp) _
  have hsz : W1.heap.size = w.heap.size + 1 + 1 := by rw [← hW1]; simp
  have rowL : ∀ {A : World} {v : Obj}, A.grownBy (A.putObj (w.heap.size + 1) v) (some (w.heap.size + 1)) := fun {A v} => grownBy_putObj' A _ v
  have okL : ∀ r, some (w.heap.size + 1) = some r → w.heap.size ≤ r := fun r e => by cases e; omega
  refine ⟨w.heap.size + 1, [{ target := .collected w.heap.size, args := #[] }], W1, { target := .fn (.func gf) lb, args := #[.func (.yield (w.heap.size + 1)) #[] #[]] }, W1, gf,
    #[.func (.yield (w.heap.size + 1)) #[] #[]] ++ lb, W1, ?_, ?_, ?_, ?_, fun _ => h1, ?_⟩
  · rw [← hW1, hrec]; exact run_enterLoop_outer _ _ _ _ _
  · simp only [resolve, hg]
    simp [go_sem]
  · intro f' hf'; simp [Target.leads] at hf'; subst hf'; exact hFg
  · simp [invoke, go_sem, eg]
  · refine (hseq (w.heap.size + 1)
      (fun pre W => I pre W ∧ W.heap[w.heap.size + 1]? = some (.loop (rec .ready none)) ∧ W.heap[w.heap.size]? = some (.deferred (some [])))
      W1 hb1
      (fun s A B row hs hg' hr => by
        have q : ∀ k, k < W1.heap.size → k < A.heap.size → B.heap[k]? = A.heap[k]? := fun k hk hlt => hg'.block k hlt (fun e => by have := hr k (by first | exact e | exact e.symm); omega)
        refine ⟨hI s A B row hs.1 hg' (fun r e => ?_), (q _ (by omega) (Array.getElem?_eq_some_iff.1 hs.2.1).1).trans hs.2.1, (q _ (by omega) (Array.getElem?_eq_some_iff.1 hs.2.2).1).trans hs.2.2⟩
        have := hr r e
        omega)
      ?_ ⟨hI1, hL1, hK1⟩).mono ?_
    · -- a round
      rintro pre x rest W hL ⟨hi, hl, hk⟩
      have hlt : w.heap.size + 1 < W.heap.size := (Array.getElem?_eq_some_iff.1 hl).1
      have hy := run_yield (P := P) (args := encs x) hl (by rw [hrec]; exact hps x)
      rw [hrec] at hy
      refine ⟨fn, _, assign, body, hy, roundIn_of_wpIn hfn (hassign _ pre x W _ hi hlt (fun a' W2 hb hi2 hax => ?_))⟩
      have hlA : W2.heap[w.heap.size + 1]? = some (.loop (rec .ready none)) := (hb.block _ hlt).trans hl
      have hkA : W2.heap[w.heap.size]? = some (.deferred (some [])) := (hb.block _ (by omega)).trans hk
      have hltA : w.heap.size + 1 < W2.heap.size := Nat.lt_of_lt_of_le hlt hb.size
      refine ⟨_, run_beginRound hlA (by rw [hrec]), ?_⟩
      have hl2 : (W2.putObj (w.heap.size + 1) (.loop { rec .ready none with state := .busy })).heap[w.heap.size + 1]? = some (.loop { rec .ready none with state := .busy }) := World.putObj_heap_same hltA
      have hk2 : (W2.putObj (w.heap.size + 1) (.loop { rec .ready none with state := .busy })).heap[w.heap.size]? = some (.deferred (some [])) := (World.putObj_heap_other (by omega)).trans hkA
      have hlt2 : w.heap.size + 1 < (W2.putObj (w.heap.size + 1) (.loop { rec .ready none with state := .busy })).heap.size := (Array.getElem?_eq_some_iff.1 hl2).1
      have hsz2 : (W2.putObj (w.heap.size + 1) (.loop { rec .ready none with state := .busy })).heap.size = W2.heap.size := by simp [World.putObj]
      refine wpIn_mono (hbody _ pre x rest a' _ hL hlt2 (hI _ _ _ _ hi2 rowL okL) (hAx _ _ _ _ hax rowL ⟨_, hlA, rfl⟩)) ?_
      rintro e a3 W3 hp
      cases e with
      | normal =>
        obtain ⟨⟨hz, hkp⟩, hi3⟩ := hp
        have hz2 : W2.heap.size ≤ W3.heap.size := Nat.le_trans (by simp [World.putObj]) hz
        have hl3 := (hkp _ hlt2 (by omega)).trans hl2
        have hk3 := (hkp (w.heap.size) (Nat.lt_of_succ_lt hlt2) (by omega)).trans hk2
        have hlt3 := (Array.getElem?_eq_some_iff.1 hl3).1
        have hr := run_endRound (P := P) none hl3
        have hl4 : (W3.putObj (w.heap.size + 1) (.loop (rec .ready none))).heap[w.heap.size + 1]? = some (.loop (rec .ready none)) := World.putObj_heap_same hlt3
        have hk4 : (W3.putObj (w.heap.size + 1) (.loop (rec .ready none))).heap[w.heap.size]? = some (.deferred (some [])) := (World.putObj_heap_other (by omega)).trans hk3
        have hs4 : (W3.putObj (w.heap.size + 1) (.loop (rec .ready none))).heap.size = W3.heap.size := by simp [World.putObj]
        refine ⟨_, W3.putObj (w.heap.size + 1) (.loop (rec .ready none)), ?_, rfl, ⟨hI _ _ _ _ hi3 rowL okL, hl4, hk4⟩, by have := hb.size; omega, fun k hk5 hg5 => ?_⟩
        · rw [hrec] at hr ⊢
          exact hr
        · by_cases e5 : k = w.heap.size + 1
          · subst e5; exact hl4.trans hl.symm
          · refine (World.putObj_heap_other (fun e => e5 (by first | exact e | exact e.symm))).trans ((hkp k (by have := hb.size; simp [World.putObj]; omega) hg5).trans ((World.putObj_heap_other (fun e => e5 (by first | exact e | exact e.symm))).trans (hb.block k hk5)))
      | ret => exact hp.elim
      | exit id => exact hp.elim
      | goto t => exact hp.elim
      | panic ch => exact hp.elim
      | outgrown => exact hp.elim
    · rintro e W2 ⟨⟨v, rfl⟩, hi, hl, hk⟩
      exact ⟨none, _, by have := run_endLoop (P := P) hl (by rw [hrec]; simp); rw [hrec] at this; exact this, hdone _ (hI _ _ _ _ hi rowL okL) ((World.putObj_heap_other (by omega)).trans hk)⟩
end Go.Proofs.Ytgjdopjolokaiaa

/- Plain facts on decimal digits. No program stands in this text. -/
namespace Go.Proofs.Ytgjdopjolokaiaa

/-- a decimal digit -/
def isDg (c : UInt8) : Bool := decide (48 ≤ c.toNat) && decide (c.toNat ≤ 57)
theorem isDg_iff (c : UInt8) : isDg c = true ↔ 48 ≤ c.toNat ∧ c.toNat ≤ 57 := by simp [isDg]
theorem isDg_not (c : UInt8) : isDg c = false ↔ c.toNat < 48 ∨ 57 < c.toNat := by rw [Bool.eq_false_iff, ne_eq, isDg_iff]; omega
def dgs (l : List UInt8) : Bool := l.all isDg
/-- the number with some digits -/
def val (l : List UInt8) : Int := l.foldl (fun a c => 10 * a + ((c.toNat : Int) - 48)) 0
theorem val_snoc (l : List UInt8) (c : UInt8) : val (l ++ [c]) = 10 * val l + ((c.toNat : Int) - 48) := by simp [val]
theorem dgs_snoc (l : List UInt8) (c : UInt8) : dgs (l ++ [c]) = (dgs l && isDg c) := by simp [dgs]
theorem val_bd (l : List UInt8) (h : dgs l = true) : 0 ≤ val l ∧ val l < 10 ^ l.length := by
  have key : ∀ (n : Nat) (l : List UInt8), l.length = n → dgs l = true → 0 ≤ val l ∧ val l < 10 ^ l.length := by
    intro n
    induction n with
    | zero => intro l hl _; rw [List.length_eq_zero_iff.1 hl]; simp [val]
    | succ n ih =>
      intro l hl h
      have hne : l ≠ [] := fun e => by subst e; simp at hl
      have e := List.dropLast_concat_getLast hne
      rw [← e] at h ⊢
      rw [dgs_snoc, Bool.and_eq_true, isDg_iff] at h
      obtain ⟨a, b⟩ := ih l.dropLast (by simp; omega) h.1
      rw [val_snoc, List.length_append, List.length_singleton, Int.pow_succ]
      omega
  exact key _ l rfl h
theorem val_small (l : List UInt8) (h : dgs l = true) (hl : l.length ≤ 15) : 0 ≤ val l ∧ val l ≤ 999999999999999 := by
  obtain ⟨a, b⟩ := val_bd l h
  have : (10 : Int) ^ l.length ≤ 10 ^ 15 := by
    have := Nat.pow_le_pow_right (show 0 < 10 by omega) hl
    exact_mod_cast this
  omega

theorem take_snoc (s : ByteArray) (k : Nat) (h : k < s.size) : s.data.toList.take (k + 1) = s.data.toList.take k ++ [s[k]] := by
  rw [List.take_succ_eq_append_getElem (by simpa using h)]; rfl
theorem dgs_take (s : ByteArray) (k : Nat) (h : k < s.size) (hd : isDg s[k] = false) : dgs s.data.toList = false := by
  rw [Bool.eq_false_iff]; intro hall
  unfold dgs at hall
  rw [List.all_eq_true] at hall
  have hm : s[k] ∈ s.data.toList := by
    show s.data[k] ∈ s.data.toList
    exact List.getElem_mem (l := s.data.toList) (by simpa using h)
  rw [hall _ hm] at hd; cases hd
theorem take_all (s : ByteArray) (k : Nat) (h : s.size ≤ k) : s.data.toList.take k = s.data.toList := List.take_of_length_le (by simpa using h)

/-- the last decimal digit of a number -/
def dg (n : Int) : UInt8 := UInt8.ofNat (48 + (n % 10).toNat)
theorem dg_nat (n : Int) : (dg n).toNat = 48 + (n % 10).toNat := by
  have : (n % 10).toNat < 10 := by omega
  unfold dg
  rw [UInt8.toNat_ofNat']
  omega
theorem dg_is (n : Int) : isDg (dg n) = true := by
  rw [isDg_iff, dg_nat]; omega
theorem dg_val (n : Int) : ((dg n).toNat : Int) - 48 = n % 10 := by rw [dg_nat]; omega
def two (n : Int) : List UInt8 := [dg (n / 10), dg n]
def four (n : Int) : List UInt8 := [dg (n / 1000), dg (n / 100), dg (n / 10), dg n]
theorem dgs_two (n : Int) : dgs (two n) = true := by simp [dgs, two, dg_is]
theorem dgs_four (n : Int) : dgs (four n) = true := by simp [dgs, four, dg_is]
theorem val_two (n : Int) (h0 : 0 ≤ n) (h1 : n ≤ 99) : val (two n) = n := by
  simp only [val, two, List.foldl_cons, List.foldl_nil, dg_val]; omega
theorem val_four (n : Int) (h0 : 0 ≤ n) (h1 : n ≤ 9999) : val (four n) = n := by
  simp only [val, four, List.foldl_cons, List.foldl_nil, dg_val]; omega
theorem dec_four (n : Int) (h0 : 1000 ≤ n) (h1 : n ≤ 9999) : Lib.decDigits n.toNat = four n := by
  have d1 : Lib.decDigits n.toNat = Lib.decDigits (n.toNat / 10) ++ [UInt8.ofNat (48 + n.toNat % 10)] := by rw [Lib.decDigits, dif_neg (by omega)]
  have d2 : Lib.decDigits (n.toNat / 10) = Lib.decDigits (n.toNat / 10 / 10) ++ [UInt8.ofNat (48 + n.toNat / 10 % 10)] := by rw [Lib.decDigits, dif_neg (by omega)]
  rw [d1, d2, Lib.decDigits_two (by omega) (by omega)]
  simp only [four, dg, List.cons_append, List.nil_append]
  rw [show n.toNat / 10 / 10 / 10 = (n / 1000 % 10).toNat by omega, show n.toNat / 10 / 10 % 10 = (n / 100 % 10).toNat by omega, show n.toNat / 10 % 10 = (n / 10 % 10).toNat by omega, show n.toNat % 10 = (n % 10).toNat by omega]
theorem dec_one (n : Int) (h0 : 0 ≤ n) (h1 : n ≤ 9) : 48 :: Lib.decDigits n.toNat = two n := by
  rw [Lib.decDigits_one (by omega)]
  simp only [two, dg]
  rw [show n / 10 % 10 = 0 by omega, show n.toNat = (n % 10).toNat by omega]; rfl
theorem dec_two (n : Int) (h0 : 10 ≤ n) (h1 : n ≤ 99) : Lib.decDigits n.toNat = two n := by
  rw [Lib.decDigits_two (by omega) (by omega)]
  simp only [two, dg]
  rw [show n.toNat / 10 = (n / 10 % 10).toNat by omega, show n.toNat % 10 = (n % 10).toNat by omega]
end Go.Proofs.Ytgjdopjolokaiaa

/- A block with four cells. -/
namespace Go.Proofs.Ytgjdopjolokaiaa
open Go.RowKit

def Quad (b : Nat) (W : World) (x y z u : Value) : Prop := W.cell? ⟨b, 0, none⟩ = some x ∧ W.cell? ⟨b, 1, none⟩ = some y ∧ W.cell? ⟨b, 2, none⟩ = some z ∧ W.cell? ⟨b, 3, none⟩ = some u ∧ (∀ k, k < 4 → W.frozen? ⟨b, k, none⟩ = false) ∧ b < W.heap.size
theorem Quad.below {b : Nat} {W W' : World} {x y z u : Value} (h : Quad b W x y z u) (hb : Below W.heap.size W W') : Quad b W' x y z u := by
  obtain ⟨h0, h1, h2, h3, h4, h5⟩ := h
  exact ⟨by rw [(bcell hb).1 _ _ h5]; exact h0, by rw [(bcell hb).1 _ _ h5]; exact h1, by rw [(bcell hb).1 _ _ h5]; exact h2, by rw [(bcell hb).1 _ _ h5]; exact h3, fun k hk => by rw [(bcell hb).2 _ _ h5]; exact h4 k hk, Nat.lt_of_lt_of_le h5 hb.size⟩
theorem Quad.alloc {b : Nat} {W : World} {x y z u : Value} (h : Quad b W x y z u) (o : Obj) : Quad b (W.alloc o) x y z u := h.below (bel_alloc (Below.refl _ _))
theorem Quad.new (W : World) (x y z u : Value) (T : TypeId) : Quad W.heap.size (W.alloc (.cells #[x, y, z, u] T)) x y z u :=
  ⟨by simp [go_sem], by simp [go_sem], by simp [go_sem], by simp [go_sem], fun k _ => by simp [go_sem], by simp⟩
theorem quad_read (w : World) (b : Nat) (x y z u : Value) {a0 a1 a2 a3 : Value} (h0 : w.cell? ⟨b, 0, none⟩ = some a0) (h1 : w.cell? ⟨b, 1, none⟩ = some a1) (h2 : w.cell? ⟨b, 2, none⟩ = some a2) (h3 : w.cell? ⟨b, 3, none⟩ = some a3) :
    ((((w.setCell ⟨b, 0, none⟩ x).setCell ⟨b, 1, none⟩ y).setCell ⟨b, 2, none⟩ z).setCell ⟨b, 3, none⟩ u).cell? ⟨b, 0, none⟩ = some x ∧ ((((w.setCell ⟨b, 0, none⟩ x).setCell ⟨b, 1, none⟩ y).setCell ⟨b, 2, none⟩ z).setCell ⟨b, 3, none⟩ u).cell? ⟨b, 1, none⟩ = some y ∧ ((((w.setCell ⟨b, 0, none⟩ x).setCell ⟨b, 1, none⟩ y).setCell ⟨b, 2, none⟩ z).setCell ⟨b, 3, none⟩ u).cell? ⟨b, 2, none⟩ = some z ∧ ((((w.setCell ⟨b, 0, none⟩ x).setCell ⟨b, 1, none⟩ y).setCell ⟨b, 2, none⟩ z).setCell ⟨b, 3, none⟩ u).cell? ⟨b, 3, none⟩ = some u := by
  have o : ∀ (W : World) (i j : Nat) (v : Value), i ≠ j → (W.setCell ⟨b, j, none⟩ v).cell? ⟨b, i, none⟩ = W.cell? ⟨b, i, none⟩ := fun W i j v h => World.cell?_setCell_other _ _ _ _ (by simp)
  refine ⟨?_, ?_, ?_, ?_⟩
  · rw [o _ 0 3 _ (by decide), o _ 0 2 _ (by decide), o _ 0 1 _ (by decide)]; exact World.cell?_setCell_same _ _ _ h0
  · rw [o _ 1 3 _ (by decide), o _ 1 2 _ (by decide)]; exact World.cell?_setCell_same (u := a1) _ _ _ (by rw [o _ 1 0 _ (by decide)]; exact h1)
  · rw [o _ 2 3 _ (by decide)]; exact World.cell?_setCell_same (u := a2) _ _ _ (by rw [o _ 2 1 _ (by decide), o _ 2 0 _ (by decide)]; exact h2)
  · exact World.cell?_setCell_same (u := a3) _ _ _ (by rw [o _ 3 2 _ (by decide), o _ 3 1 _ (by decide), o _ 3 0 _ (by decide)]; exact h3)
end Go.Proofs.Ytgjdopjolokaiaa

/- Casks: names, values that read as casks, the first fault of a cask. -/
namespace Go.Proofs.Ytgjdopjolokaiaa
open Go.RowKit

structure Ck where
  nm : ByteArray
  ps : Int
  pf : List (Int × Int)
  dc : Int

/-- a letter of a name -/
def nmC (c : UInt8) : Bool := decide (97 ≤ c.toNat ∧ c.toNat ≤ 122) || decide (65 ≤ c.toNat ∧ c.toNat ≤ 90) || decide (48 ≤ c.toNat ∧ c.toNat ≤ 57) || decide (c.toNat = 45) || decide (c.toNat = 46)
theorem nmC_iff (c : UInt8) : nmC c = true ↔ (97 ≤ c.toNat ∧ c.toNat ≤ 122) ∨ (65 ≤ c.toNat ∧ c.toNat ≤ 90) ∨ (48 ≤ c.toNat ∧ c.toNat ≤ 57) ∨ c.toNat = 45 ∨ c.toNat = 46 := by
  simp [nmC, or_assoc]
/-- a name -/
def isNm (s : ByteArray) : Bool := s.data.toList.all nmC && decide (1 ≤ s.size) && decide (s.size ≤ 64)
theorem all_snoc {p : UInt8 → Bool} (l : List UInt8) (c : UInt8) : (l ++ [c]).all p = (l.all p && p c) := by simp
theorem all_take {p : UInt8 → Bool} (s : ByteArray) (k : Nat) (h : k < s.size) (hd : p s[k] = false) : s.data.toList.all p = false := by
  rw [Bool.eq_false_iff]; intro hall
  rw [List.all_eq_true] at hall
  have hm : s[k] ∈ s.data.toList := by
    show s.data[k] ∈ s.data.toList
    exact List.getElem_mem (l := s.data.toList) (by simpa using h)
  rw [hall _ hm] at hd; cases hd
/-- the first fault of a cask -/
def ccE (c : Ck) : Int :=
  if isNm c.nm = true then (if (c.ps ≠ 1 ∧ c.ps ≠ 2) ∨ c.dc < 0 ∨ 1073741824 < c.dc then 2 else ckE c.pf) else 4
/-- a value reads as a cask -/
def CkV (w : World) (v : Value) (c : Ck) : Prop :=
  ∃ a cap, v = .agg #[.string c.nm, .int .i64 c.ps, .slice a c.pf.length cap, .int .i64 c.dc] ∧ Pts w (.slice a c.pf.length cap) c.pf ∧ c.nm.size ≤ 9223372036854775807 ∧ (-9223372036854775808 ≤ c.ps ∧ c.ps ≤ 9223372036854775807) ∧ (-9223372036854775808 ≤ c.dc ∧ c.dc ≤ 9223372036854775807)
theorem CkV.below {w w' : World} {v : Value} {c : Ck} (h : CkV w v c) (hb : Below w.heap.size w w') : CkV w' v c := by
  obtain ⟨a, cap, e, hp, r⟩ := h
  exact ⟨a, cap, e, hp.below hb, r⟩
theorem CkV.alloc {w : World} {v : Value} {c : Ck} (h : CkV w v c) (o : Obj) : CkV (w.alloc o) v c := h.below (bel_alloc (Below.refl _ _))
/-- a slice reads as a list of casks -/
def Cks (w : World) (v : Value) (l : List Ck) : Prop :=
  ∃ a cap, v = .slice a l.length cap ∧ (l.length ≤ cap ∧ cap ≤ 9223372036854775807) ∧
    (l.length = 0 ∨ ∃ b off, a = some ⟨b, off, none⟩ ∧ b < w.heap.size ∧ ∀ j (hj : j < l.length), ∃ x0 x1 x2 x3, w.cell? ⟨b, off + j * 4, none⟩ = some x0 ∧ w.cell? ⟨b, off + j * 4 + 1, none⟩ = some x1 ∧ w.cell? ⟨b, off + j * 4 + 2, none⟩ = some x2 ∧ w.cell? ⟨b, off + j * 4 + 3, none⟩ = some x3 ∧ CkV w (.agg #[x0, x1, x2, x3]) l[j])
theorem Cks.below {w w' : World} {v : Value} {l : List Ck} (h : Cks w v l) (hb : Below w.heap.size w w') : Cks w' v l := by
  obtain ⟨a, cap, rfl, hl, h | ⟨b, off, rfl, hlt, hc⟩⟩ := h
  · exact ⟨a, cap, rfl, hl, .inl h⟩
  · refine ⟨_, cap, rfl, hl, .inr ⟨b, off, rfl, Nat.lt_of_lt_of_le hlt hb.size, fun j hj => ?_⟩⟩
    obtain ⟨x0, x1, x2, x3, g0, g1, g2, g3, g⟩ := hc j hj
    exact ⟨x0, x1, x2, x3, by rw [(bcell hb).1 _ _ hlt]; exact g0, by rw [(bcell hb).1 _ _ hlt]; exact g1, by rw [(bcell hb).1 _ _ hlt]; exact g2, by rw [(bcell hb).1 _ _ hlt]; exact g3, g.below hb⟩
theorem Cks.alloc {w : World} {v : Value} {l : List Ck} (h : Cks w v l) (o : Obj) : Cks (w.alloc o) v l := h.below (bel_alloc (Below.refl _ _))
theorem Cks.shape {W : World} {v : Value} {l : List Ck} (h : Cks W v l) : ∃ a cap, v = .slice a l.length cap ∧ l.length ≤ cap ∧ cap ≤ 9223372036854775807 := by
  obtain ⟨a, cap, e, ⟨h1, h2⟩, _⟩ := h
  exact ⟨a, cap, e, h1, h2⟩
/-- the casks' cells, written out -/
def CkAt (w : World) (b off j : Nat) (c : Ck) : Prop :=
  ∃ a cap, w.cell? ⟨b, off + j * 4, none⟩ = some (.string c.nm) ∧ w.cell? ⟨b, off + j * 4 + 1, none⟩ = some (.int .i64 c.ps) ∧ w.cell? ⟨b, off + j * 4 + 2, none⟩ = some (.slice a c.pf.length cap) ∧ w.cell? ⟨b, off + j * 4 + 3, none⟩ = some (.int .i64 c.dc) ∧ Pts w (.slice a c.pf.length cap) c.pf ∧ c.nm.size ≤ 9223372036854775807 ∧ (-9223372036854775808 ≤ c.ps ∧ c.ps ≤ 9223372036854775807) ∧ (-9223372036854775808 ≤ c.dc ∧ c.dc ≤ 9223372036854775807)
theorem CkAt.below {w w' : World} {b off j : Nat} {c : Ck} (h : CkAt w b off j c) (hlt : b < w.heap.size) (hb : Below w.heap.size w w') : CkAt w' b off j c := by
  obtain ⟨a, cap, g0, g1, g2, g3, hp, r⟩ := h
  exact ⟨a, cap, by rw [(bcell hb).1 _ _ hlt]; exact g0, by rw [(bcell hb).1 _ _ hlt]; exact g1, by rw [(bcell hb).1 _ _ hlt]; exact g2, by rw [(bcell hb).1 _ _ hlt]; exact g3, hp.below hb, r⟩
theorem Cks.cks {W : World} {v : Value} {l : List Ck} (h : Cks W v l) (h0 : 0 < l.length) : ∃ b off cap, v = .slice (some ⟨b, off, none⟩) l.length cap ∧ b < W.heap.size ∧ (l.length ≤ cap ∧ cap ≤ 9223372036854775807) ∧ ∀ j (hj : j < l.length), CkAt W b off j l[j] := by
  obtain ⟨a, cap, rfl, hl, h | ⟨b, off, rfl, hlt, hc⟩⟩ := h
  · omega
  · refine ⟨b, off, cap, rfl, hlt, hl, fun j hj => ?_⟩
    obtain ⟨x0, x1, x2, x3, g0, g1, g2, g3, a, c, e, r⟩ := hc j hj
    simp only [Value.agg.injEq, Array.mk.injEq, List.cons.injEq, and_true] at e
    obtain ⟨rfl, rfl, rfl, rfl⟩ := e
    exact ⟨a, c, g0, g1, g2, g3, r⟩
theorem cks_nil (w : World) : Cks w (.slice none 0 0) [] := ⟨none, 0, rfl, by simp, .inl rfl⟩
/-- no cask -/
def zCk : Ck := ⟨ByteArray.empty, 0, [], 0⟩
end Go.Proofs.Ytgjdopjolokaiaa

/- The reference of layer 9: IsName, Check, Few, SameCask. -/
namespace Go.Proofs.Ytgjdopjolokaiaa
open Go.RowKit

set_option maxHeartbeats 8000000 in
set_option maxRecDepth 100000 in
theorem refIsName_core (s : ByteArray) (B : Bool) (w : World) (hs : s.size ≤ 9223372036854775807)
    (h1 : Hid (s.data.toList.all nmC = false → B = false)) (h2 : Hid (s.data.toList.all nmC = true → B = (decide (1 ≤ s.size) && decide (s.size ≤ 64)))) :
    Calls Try.prog 95 #[.string s] w fun e w' => e = .returned (.bool B) ∧ w' = w := by
  go_enter Try.func95, Try.ntmps95
  go_wp2_with fail
  go_loopw [3] (fun ii wr => ∃ i : Nat, i ≤ s.size ∧ ii = .int .i64 i ∧ wr = w ∧ Hid ((s.data.toList.take i).all nmC = true)) (fun ii _ => s.size - (intOf ii).toNat)
  case atStart => exact ⟨0, by omega, rfl, rfl, rfl⟩
  case round =>
    obtain ⟨i, hi, rfl, rfl, ha⟩ := hrel
    by_cases hlt : i < s.size
    · have cs : (97 ≤ s[i].toNat ∧ s[i].toNat ≤ 122) ∨ (65 ≤ s[i].toNat ∧ s[i].toNat ≤ 90) ∨ (48 ≤ s[i].toNat ∧ s[i].toNat ≤ 57) ∨ (45 ≤ s[i].toNat ∧ s[i].toNat ≤ 45) ∨ (46 ≤ s[i].toNat ∧ s[i].toNat ≤ 46) ∨ (0 ≤ s[i].toNat ∧ s[i].toNat ≤ 44) ∨ (47 ≤ s[i].toNat ∧ s[i].toNat ≤ 47) ∨ (58 ≤ s[i].toNat ∧ s[i].toNat ≤ 64) ∨ (91 ≤ s[i].toNat ∧ s[i].toNat ≤ 96) ∨ (123 ≤ s[i].toNat ∧ s[i].toNat ≤ 255) := by
        have := s[i].toNat_lt
        omega
      have HT : Hid (nmC s[i] = true → (s.data.toList.take (i + 1)).all nmC = true) := fun h => by show _ = _; rw [take_snoc s i hlt, all_snoc, ha.out, h]; rfl
      have HF : Hid (nmC s[i] = false → B = false) := fun h => h1.out (all_take s i hlt h)
      clear ha h1 h2
      rcases cs with cs | cs | cs | cs | cs | cs | cs | cs | cs | cs
      · have hx := Lib.hid (HT.out ((nmC_iff _).2 (by omega)))
        clear HT HF
        have za0 : decide ((97 : Int) ≤ (s[i].toNat : Int)) = true := decide_eq_true (by omega)
        have za1 : decide ((s[i].toNat : Int) ≤ 122) = true := decide_eq_true (by omega)
        have zb0 : decide ((65 : Int) ≤ (s[i].toNat : Int)) = true := decide_eq_true (by omega)
        have zb1 : decide ((s[i].toNat : Int) ≤ 90) = false := decide_eq_false (by omega)
        have zc0 : decide ((48 : Int) ≤ (s[i].toNat : Int)) = true := decide_eq_true (by omega)
        have zc1 : decide ((s[i].toNat : Int) ≤ 57) = false := decide_eq_false (by omega)
        have ze : ((s[i].toNat : Int) == 45) = false := by simp only [beq_eq_false_iff_ne, ne_eq]; omega
        have zf : ((s[i].toNat : Int) == 46) = false := by simp only [beq_eq_false_iff_ne, ne_eq]; omega
        clear cs
        go_wp2
        go_roundw
        case rel => exact ⟨i + 1, by omega, by go_num, by first | rfl | trivial, hx⟩
        case measure => simp [intOf]; omega
      · have hx := Lib.hid (HT.out ((nmC_iff _).2 (by omega)))
        clear HT HF
        have za0 : decide ((97 : Int) ≤ (s[i].toNat : Int)) = false := decide_eq_false (by omega)
        have za1 : decide ((s[i].toNat : Int) ≤ 122) = true := decide_eq_true (by omega)
        have zb0 : decide ((65 : Int) ≤ (s[i].toNat : Int)) = true := decide_eq_true (by omega)
        have zb1 : decide ((s[i].toNat : Int) ≤ 90) = true := decide_eq_true (by omega)
        have zc0 : decide ((48 : Int) ≤ (s[i].toNat : Int)) = true := decide_eq_true (by omega)
        have zc1 : decide ((s[i].toNat : Int) ≤ 57) = false := decide_eq_false (by omega)
        have ze : ((s[i].toNat : Int) == 45) = false := by simp only [beq_eq_false_iff_ne, ne_eq]; omega
        have zf : ((s[i].toNat : Int) == 46) = false := by simp only [beq_eq_false_iff_ne, ne_eq]; omega
        clear cs
        go_wp2
        go_roundw
        case rel => exact ⟨i + 1, by omega, by go_num, by first | rfl | trivial, hx⟩
        case measure => simp [intOf]; omega
      · have hx := Lib.hid (HT.out ((nmC_iff _).2 (by omega)))
        clear HT HF
        have za0 : decide ((97 : Int) ≤ (s[i].toNat : Int)) = false := decide_eq_false (by omega)
        have za1 : decide ((s[i].toNat : Int) ≤ 122) = true := decide_eq_true (by omega)
        have zb0 : decide ((65 : Int) ≤ (s[i].toNat : Int)) = false := decide_eq_false (by omega)
        have zb1 : decide ((s[i].toNat : Int) ≤ 90) = true := decide_eq_true (by omega)
        have zc0 : decide ((48 : Int) ≤ (s[i].toNat : Int)) = true := decide_eq_true (by omega)
        have zc1 : decide ((s[i].toNat : Int) ≤ 57) = true := decide_eq_true (by omega)
        have ze : ((s[i].toNat : Int) == 45) = false := by simp only [beq_eq_false_iff_ne, ne_eq]; omega
        have zf : ((s[i].toNat : Int) == 46) = false := by simp only [beq_eq_false_iff_ne, ne_eq]; omega
        clear cs
        go_wp2
        go_roundw
        case rel => exact ⟨i + 1, by omega, by go_num, by first | rfl | trivial, hx⟩
        case measure => simp [intOf]; omega
      · have hx := Lib.hid (HT.out ((nmC_iff _).2 (by omega)))
        clear HT HF
        have za0 : decide ((97 : Int) ≤ (s[i].toNat : Int)) = false := decide_eq_false (by omega)
        have za1 : decide ((s[i].toNat : Int) ≤ 122) = true := decide_eq_true (by omega)
        have zb0 : decide ((65 : Int) ≤ (s[i].toNat : Int)) = false := decide_eq_false (by omega)
        have zb1 : decide ((s[i].toNat : Int) ≤ 90) = true := decide_eq_true (by omega)
        have zc0 : decide ((48 : Int) ≤ (s[i].toNat : Int)) = false := decide_eq_false (by omega)
        have zc1 : decide ((s[i].toNat : Int) ≤ 57) = true := decide_eq_true (by omega)
        have ze : ((s[i].toNat : Int) == 45) = true := by simp only [beq_iff_eq]; omega
        have zf : ((s[i].toNat : Int) == 46) = false := by simp only [beq_eq_false_iff_ne, ne_eq]; omega
        clear cs
        go_wp2
        go_roundw
        case rel => exact ⟨i + 1, by omega, by go_num, by first | rfl | trivial, hx⟩
        case measure => simp [intOf]; omega
      · have hx := Lib.hid (HT.out ((nmC_iff _).2 (by omega)))
        clear HT HF
        have za0 : decide ((97 : Int) ≤ (s[i].toNat : Int)) = false := decide_eq_false (by omega)
        have za1 : decide ((s[i].toNat : Int) ≤ 122) = true := decide_eq_true (by omega)
        have zb0 : decide ((65 : Int) ≤ (s[i].toNat : Int)) = false := decide_eq_false (by omega)
        have zb1 : decide ((s[i].toNat : Int) ≤ 90) = true := decide_eq_true (by omega)
        have zc0 : decide ((48 : Int) ≤ (s[i].toNat : Int)) = false := decide_eq_false (by omega)
        have zc1 : decide ((s[i].toNat : Int) ≤ 57) = true := decide_eq_true (by omega)
        have ze : ((s[i].toNat : Int) == 45) = false := by simp only [beq_eq_false_iff_ne, ne_eq]; omega
        have zf : ((s[i].toNat : Int) == 46) = true := by simp only [beq_iff_eq]; omega
        clear cs
        go_wp2
        go_roundw
        case rel => exact ⟨i + 1, by omega, by go_num, by first | rfl | trivial, hx⟩
        case measure => simp [intOf]; omega
      · obtain rfl := HF.out (by rw [Bool.eq_false_iff, ne_eq, nmC_iff]; omega)
        clear HT HF
        have za0 : decide ((97 : Int) ≤ (s[i].toNat : Int)) = false := decide_eq_false (by omega)
        have za1 : decide ((s[i].toNat : Int) ≤ 122) = true := decide_eq_true (by omega)
        have zb0 : decide ((65 : Int) ≤ (s[i].toNat : Int)) = false := decide_eq_false (by omega)
        have zb1 : decide ((s[i].toNat : Int) ≤ 90) = true := decide_eq_true (by omega)
        have zc0 : decide ((48 : Int) ≤ (s[i].toNat : Int)) = false := decide_eq_false (by omega)
        have zc1 : decide ((s[i].toNat : Int) ≤ 57) = true := decide_eq_true (by omega)
        have ze : ((s[i].toNat : Int) == 45) = false := by simp only [beq_eq_false_iff_ne, ne_eq]; omega
        have zf : ((s[i].toNat : Int) == 46) = false := by simp only [beq_eq_false_iff_ne, ne_eq]; omega
        clear cs
        go_wp2
        go_returns
        exact ⟨rfl, rfl⟩
      · obtain rfl := HF.out (by rw [Bool.eq_false_iff, ne_eq, nmC_iff]; omega)
        clear HT HF
        have za0 : decide ((97 : Int) ≤ (s[i].toNat : Int)) = false := decide_eq_false (by omega)
        have za1 : decide ((s[i].toNat : Int) ≤ 122) = true := decide_eq_true (by omega)
        have zb0 : decide ((65 : Int) ≤ (s[i].toNat : Int)) = false := decide_eq_false (by omega)
        have zb1 : decide ((s[i].toNat : Int) ≤ 90) = true := decide_eq_true (by omega)
        have zc0 : decide ((48 : Int) ≤ (s[i].toNat : Int)) = false := decide_eq_false (by omega)
        have zc1 : decide ((s[i].toNat : Int) ≤ 57) = true := decide_eq_true (by omega)
        have ze : ((s[i].toNat : Int) == 45) = false := by simp only [beq_eq_false_iff_ne, ne_eq]; omega
        have zf : ((s[i].toNat : Int) == 46) = false := by simp only [beq_eq_false_iff_ne, ne_eq]; omega
        clear cs
        go_wp2
        go_returns
        exact ⟨rfl, rfl⟩
      · obtain rfl := HF.out (by rw [Bool.eq_false_iff, ne_eq, nmC_iff]; omega)
        clear HT HF
        have za0 : decide ((97 : Int) ≤ (s[i].toNat : Int)) = false := decide_eq_false (by omega)
        have za1 : decide ((s[i].toNat : Int) ≤ 122) = true := decide_eq_true (by omega)
        have zb0 : decide ((65 : Int) ≤ (s[i].toNat : Int)) = false := decide_eq_false (by omega)
        have zb1 : decide ((s[i].toNat : Int) ≤ 90) = true := decide_eq_true (by omega)
        have zc0 : decide ((48 : Int) ≤ (s[i].toNat : Int)) = true := decide_eq_true (by omega)
        have zc1 : decide ((s[i].toNat : Int) ≤ 57) = false := decide_eq_false (by omega)
        have ze : ((s[i].toNat : Int) == 45) = false := by simp only [beq_eq_false_iff_ne, ne_eq]; omega
        have zf : ((s[i].toNat : Int) == 46) = false := by simp only [beq_eq_false_iff_ne, ne_eq]; omega
        clear cs
        go_wp2
        go_returns
        exact ⟨rfl, rfl⟩
      · obtain rfl := HF.out (by rw [Bool.eq_false_iff, ne_eq, nmC_iff]; omega)
        clear HT HF
        have za0 : decide ((97 : Int) ≤ (s[i].toNat : Int)) = false := decide_eq_false (by omega)
        have za1 : decide ((s[i].toNat : Int) ≤ 122) = true := decide_eq_true (by omega)
        have zb0 : decide ((65 : Int) ≤ (s[i].toNat : Int)) = true := decide_eq_true (by omega)
        have zb1 : decide ((s[i].toNat : Int) ≤ 90) = false := decide_eq_false (by omega)
        have zc0 : decide ((48 : Int) ≤ (s[i].toNat : Int)) = true := decide_eq_true (by omega)
        have zc1 : decide ((s[i].toNat : Int) ≤ 57) = false := decide_eq_false (by omega)
        have ze : ((s[i].toNat : Int) == 45) = false := by simp only [beq_eq_false_iff_ne, ne_eq]; omega
        have zf : ((s[i].toNat : Int) == 46) = false := by simp only [beq_eq_false_iff_ne, ne_eq]; omega
        clear cs
        go_wp2
        go_returns
        exact ⟨rfl, rfl⟩
      · obtain rfl := HF.out (by rw [Bool.eq_false_iff, ne_eq, nmC_iff]; omega)
        clear HT HF
        have za0 : decide ((97 : Int) ≤ (s[i].toNat : Int)) = true := decide_eq_true (by omega)
        have za1 : decide ((s[i].toNat : Int) ≤ 122) = false := decide_eq_false (by omega)
        have zb0 : decide ((65 : Int) ≤ (s[i].toNat : Int)) = true := decide_eq_true (by omega)
        have zb1 : decide ((s[i].toNat : Int) ≤ 90) = false := decide_eq_false (by omega)
        have zc0 : decide ((48 : Int) ≤ (s[i].toNat : Int)) = true := decide_eq_true (by omega)
        have zc1 : decide ((s[i].toNat : Int) ≤ 57) = false := decide_eq_false (by omega)
        have ze : ((s[i].toNat : Int) == 45) = false := by simp only [beq_eq_false_iff_ne, ne_eq]; omega
        have zf : ((s[i].toNat : Int) == 46) = false := by simp only [beq_eq_false_iff_ne, ne_eq]; omega
        clear cs
        go_wp2
        go_returns
        exact ⟨rfl, rfl⟩
    · obtain rfl : i = s.size := by omega
      have ha' := ha.out
      rw [take_all s s.size (Nat.le_refl _)] at ha'
      have hB := h2.out ha'
      clear ha' h1 h2 ha
      by_cases g1 : 1 ≤ s.size
      · by_cases g2 : s.size ≤ 64
        · obtain rfl : B = true := by rw [hB]; simp [g1, g2]
          have d0 : decide ((1 : Int) ≤ (s.size : Int)) = true := decide_eq_true (by omega)
          have d1 : decide ((s.size : Int) ≤ 64) = true := decide_eq_true (by omega)
          clear g1 g2 hB hlt hi hs
          go_wp2
          go_returns
          exact ⟨rfl, rfl⟩
        · obtain rfl : B = false := by rw [hB]; simp [g2]
          have d0 : decide ((1 : Int) ≤ (s.size : Int)) = true := decide_eq_true (by omega)
          have d1 : decide ((s.size : Int) ≤ 64) = false := decide_eq_false (by omega)
          clear g1 g2 hB hlt hi hs
          go_wp2
          go_returns
          exact ⟨rfl, rfl⟩
      · obtain rfl : B = false := by rw [hB]; simp [g1]
        have d0 : decide ((1 : Int) ≤ (s.size : Int)) = false := decide_eq_false (by omega)
        clear g1 hB hlt hi hs
        go_wp2
        go_returns
        exact ⟨rfl, rfl⟩
theorem refIsName_any (s : ByteArray) (w : World) (hs : s.size ≤ 9223372036854775807) :
    Calls Try.prog 95 #[.string s] w fun e w' => e = .returned (.bool (isNm s)) ∧ w' = w :=
  refIsName_core s _ w hs (fun h => by show _ = _; unfold isNm; rw [h]; rfl) (fun h => by show _ = _; unfold isNm; rw [h]; simp)

set_option maxHeartbeats 4000000 in
theorem refCkk_core (nm : ByteArray) (ps dc : Int) (a : Option Addr) (n cap : Nat) (B : Bool) (E : Int) (w : World)
    (H1 : Hid (∀ W, Calls Try.prog 95 #[.string nm] W fun e w' => e = .returned (.bool B) ∧ w' = W))
    (H2 : Hid (∀ W, Below w.heap.size w W → Calls Try.prog 30 #[.slice a n cap] W fun e w' => e = .returned (.int .i64 E) ∧ Below W.heap.size W w')) :
    Calls Try.prog 75 #[.agg #[.string nm, .int .i64 ps, .slice a n cap, .int .i64 dc]] w fun e w' => e = .returned (.int .i64 (if B = true then (if (ps ≠ 1 ∧ ps ≠ 2) ∨ dc < 0 ∨ 1073741824 < dc then 2 else E) else 4)) ∧ Below w.heap.size w w' := by
  have F0 := Lib.hid (Quad.new w (.string nm) (.int .i64 ps) (.slice a n cap) (.int .i64 dc) 24)
  cases B with
  | false =>
    go_enter Try.func75, Try.ntmps75
    go_wp2_with fail
    refine (H1.out _).mono ?_
    rintro e w1 ⟨rfl, hw⟩
    subst hw
    go_wp2
    go_returns
    exact ⟨by simp, bel_alloc (Below.refl _ _)⟩
  | true =>
    rw [if_pos rfl]
    have q : (ps = 1 ∨ ps = 2 ∨ (ps ≠ 1 ∧ ps ≠ 2)) := by omega
    have X1 : Hid (Below w.heap.size w (w.alloc (.cells #[.string nm, .int .i64 ps, .slice a n cap, .int .i64 dc] 24))) := Lib.hid (bel_alloc (Below.refl _ _))
    have fin : ∀ (P : Prop) [Decidable P], P → (if P then (2 : Int) else E) = 2 := fun P _ h => if_pos h
    have fin2 : ∀ (P : Prop) [Decidable P], ¬ P → (if P then (2 : Int) else E) = E := fun P _ h => if_neg h
    rcases q with rfl | rfl | ⟨h, h'⟩
    · by_cases d0 : dc < 0
      · rw [fin _ (by omega)]
        have y0 : decide (dc < 0) = true := decide_eq_true d0
        clear F0
        go_enter Try.func75, Try.ntmps75
        go_wp2_with fail
        refine (H1.out _).mono ?_
        rintro e w1 ⟨rfl, hw⟩
        subst hw
        go_wp2
        go_returns
        exact ⟨rfl, X1.out⟩
      · by_cases d1 : 1073741824 < dc
        · rw [fin _ (by omega)]
          have y0 : decide (dc < 0) = false := decide_eq_false d0
          have y1 : decide (1073741824 < dc) = true := decide_eq_true d1
          clear F0
          go_enter Try.func75, Try.ntmps75
          go_wp2_with fail
          refine (H1.out _).mono ?_
          rintro e w1 ⟨rfl, hw⟩
          subst hw
          go_wp2
          go_returns
          exact ⟨rfl, X1.out⟩
        · rw [fin2 _ (by omega)]
          have y0 : decide (dc < 0) = false := decide_eq_false d0
          have y1 : decide (1073741824 < dc) = false := decide_eq_false d1
          clear F0
          go_enter Try.func75, Try.ntmps75
          go_wp2_with fail
          refine (H1.out _).mono ?_
          rintro e w1 ⟨rfl, hw⟩
          subst hw
          go_wp2_with fail
          refine (H2.out _ X1.out).mono ?_
          rintro e w2 ⟨rfl, gg⟩
          replace X1 := Lib.hid (bel_trans X1.out gg); clear gg
          go_wp2
          go_returns
          exact ⟨rfl, X1.out⟩
    · by_cases d0 : dc < 0
      · rw [fin _ (by omega)]
        have y0 : decide (dc < 0) = true := decide_eq_true d0
        clear F0
        go_enter Try.func75, Try.ntmps75
        go_wp2_with fail
        refine (H1.out _).mono ?_
        rintro e w1 ⟨rfl, hw⟩
        subst hw
        go_wp2
        go_returns
        exact ⟨rfl, X1.out⟩
      · by_cases d1 : 1073741824 < dc
        · rw [fin _ (by omega)]
          have y0 : decide (dc < 0) = false := decide_eq_false d0
          have y1 : decide (1073741824 < dc) = true := decide_eq_true d1
          clear F0
          go_enter Try.func75, Try.ntmps75
          go_wp2_with fail
          refine (H1.out _).mono ?_
          rintro e w1 ⟨rfl, hw⟩
          subst hw
          go_wp2
          go_returns
          exact ⟨rfl, X1.out⟩
        · rw [fin2 _ (by omega)]
          have y0 : decide (dc < 0) = false := decide_eq_false d0
          have y1 : decide (1073741824 < dc) = false := decide_eq_false d1
          clear F0
          go_enter Try.func75, Try.ntmps75
          go_wp2_with fail
          refine (H1.out _).mono ?_
          rintro e w1 ⟨rfl, hw⟩
          subst hw
          go_wp2_with fail
          refine (H2.out _ X1.out).mono ?_
          rintro e w2 ⟨rfl, gg⟩
          replace X1 := Lib.hid (bel_trans X1.out gg); clear gg
          go_wp2
          go_returns
          exact ⟨rfl, X1.out⟩
    · rw [fin _ (by omega)]
      have z1 : (ps != 1) = true := by simpa using h
      have z2 : (ps != 2) = true := by simpa using h'
      clear F0
      go_enter Try.func75, Try.ntmps75
      go_wp2_with fail
      refine (H1.out _).mono ?_
      rintro e w1 ⟨rfl, hw⟩
      subst hw
      go_wp2
      go_returns
      exact ⟨rfl, X1.out⟩
theorem refCkk_any (v : Value) (c : Ck) (w : World) (hv : CkV w v c) :
    Calls Try.prog 75 #[v] w fun e w' => e = .returned (.int .i64 (ccE c)) ∧ Below w.heap.size w w' := by
  obtain ⟨a, cap, rfl, hp, hs, _⟩ := hv
  exact refCkk_core c.nm c.ps c.dc a _ cap (isNm c.nm) (ckE c.pf) w (Lib.hid fun W => refIsName_any c.nm W hs) (Lib.hid fun W hW => refCk_any _ c.pf W (hp.below hW))

end Go.Proofs.Ytgjdopjolokaiaa

/- The reference of layer 8: Bung. -/
namespace Go.Proofs.Ytgjdopjolokaiaa
open Go.RowKit

end Go.Proofs.Ytgjdopjolokaiaa

/- What a cask without a fault is. -/
namespace Go.Proofs.Ytgjdopjolokaiaa

theorem ccE_pf {c : Ck} (h : ccE c = 0) : isNm c.nm = true ∧ (c.ps = 1 ∨ c.ps = 2) ∧ (0 ≤ c.dc ∧ c.dc ≤ 1073741824) ∧ RP c.pf := by
  unfold ccE at h
  split at h
  · rename_i g
    split at h
    · omega
    · exact ⟨g, by omega, by omega, (ckE_iff _).1 h⟩
  · omega
end Go.Proofs.Ytgjdopjolokaiaa

/- The reference of layer 9: Radius, Depth. -/
namespace Go.Proofs.Ytgjdopjolokaiaa
open Go.RowKit

/-- the radius of the bung -/
def brQ (c : Ck) : Int := gR c.pf (bg c.pf c.pf.length)
/-- what Depth returns -/
def deQ (c : Ck) : Int := if ccE c = 0 then (if c.ps = 1 then 2 * brQ c else gX c.pf (c.pf.length - 1)) else 0
end Go.Proofs.Ytgjdopjolokaiaa

/- A slice that reads as a list of integers. -/
namespace Go.Proofs.Ytgjdopjolokaiaa
open Go.RowKit

def Nums (w : World) (v : Value) (zs : List Int) : Prop :=
  ∃ a cap, v = .slice a zs.length cap ∧ (zs.length ≤ cap ∧ cap ≤ 9223372036854775807) ∧
    (zs.length = 0 ∨ ∃ b off, a = some ⟨b, off, none⟩ ∧ b < w.heap.size ∧ ∀ j, j < zs.length → w.cell? ⟨b, off + j, none⟩ = some (.int .i64 (zs.getD j 0)))
theorem Nums.below {w w' : World} {v : Value} {zs : List Int} (h : Nums w v zs) (hb : Below w.heap.size w w') : Nums w' v zs := by
  obtain ⟨a, cap, rfl, hl, h | ⟨b, off, rfl, hlt, hc⟩⟩ := h
  · exact ⟨a, cap, rfl, hl, .inl h⟩
  · exact ⟨_, cap, rfl, hl, .inr ⟨b, off, rfl, Nat.lt_of_lt_of_le hlt hb.size, fun j hj => by rw [(bcell hb).1 _ _ hlt]; exact hc j hj⟩⟩
theorem sum_next (zs : List Int) (k : Nat) (hk : k < zs.length) : (zs.take (k + 1)).sum = (zs.take k).sum + zs.getD k 0 := by
  rw [List.take_succ_eq_append_getElem hk, List.sum_append, List.getD_eq_getElem?_getD, List.getElem?_eq_getElem hk]
  simp
theorem all_next (p : Int → Bool) (zs : List Int) (k : Nat) (hk : k < zs.length) : (zs.take (k + 1)).all p = ((zs.take k).all p && p (zs.getD k 0)) := by
  rw [List.take_succ_eq_append_getElem hk, List.all_append, List.getD_eq_getElem?_getD, List.getElem?_eq_getElem hk]
  simp
theorem all_not (p : Int → Bool) (zs : List Int) (k : Nat) (hk : k < zs.length) (h : p (zs.getD k 0) = false) : zs.all p = false := by
  rw [Bool.eq_false_iff]
  intro ha
  rw [List.all_eq_true] at ha
  rw [List.getD_eq_getElem?_getD, List.getElem?_eq_getElem hk, Option.getD_some] at h
  rw [ha _ (List.getElem_mem hk)] at h
  cases h
end Go.Proofs.Ytgjdopjolokaiaa

/- The reference of layer 7: Heights. -/
namespace Go.Proofs.Ytgjdopjolokaiaa
open Go.RowKit

theorem info_int : (Try.prog.info? 3).map (fun i => (i.zero, i.size, i.bytes)) = some (some (.int .i64 0), 1, 8) := by kernel_rfl
def heB (top n : Int) : Bool := decide (0 ≤ top) && decide (top ≤ 200000) && decide (1 ≤ n) && decide (n ≤ 64)
theorem heB_iff (top n : Int) : heB top n = true ↔ (0 ≤ top ∧ top ≤ 200000) ∧ 1 ≤ n ∧ n ≤ 64 := by simp [heB, and_assoc]
def heE (top n : Int) : Int := if heB top n = true then 0 else 2
def heL (top n : Int) : List Int := if heB top n = true then hs top n.toNat else []
def hk (top n : Int) (k : Nat) : List Int := (List.range k).map fun (i : Nat) => (i : Int) * top / n
theorem hk_len (top n : Int) (k : Nat) : (hk top n k).length = k := by simp [hk]
theorem hk_succ (top n : Int) (k : Nat) : hk top n (k + 1) = hk top n k ++ [(k : Int) * top / n] := by simp [hk, List.range_succ]
theorem nums_of_own {w : World} {B n : Nat} {v : Value} {zs : List Int} (h : w.ownsRow B 3 1 v n (zs.map (Value.int .i64))) : Nums w v zs := by
  have hl : zs.length = n := by have := h.1; simpa using this
  obtain ⟨_, h2⟩ := h
  rcases h2 with ⟨rfl, rfl⟩ | ⟨g, cap, cur, rfl, hg, hh, hc, hm, hs, ht⟩
  · exact ⟨none, 0, by rw [hl], by omega, .inl hl⟩
  · have hlt : g < w.heap.size := by
      rcases Nat.lt_or_ge g w.heap.size with h | h
      · exact h
      · rw [Array.getElem?_eq_none h] at hh; cases hh
    refine ⟨some ⟨g, 0, none⟩, cap, by rw [hl], ⟨by omega, by unfold maxLen at hm; omega⟩, .inr ⟨g, 0, rfl, hlt, fun j hj => ?_⟩⟩
    have hrow : w.ownsRow B 3 1 (.slice (some ⟨g, 0, none⟩) n cap) n (zs.map (Value.int .i64)) := ⟨by simp [hl], .inr ⟨g, cap, cur, rfl, hg, hh, hc, hm, hs, ht⟩⟩
    rw [Nat.zero_add, World.ownsRow.cellAt hrow j (by omega)]
    simp [List.getD, List.getElem?_eq_getElem hj]
theorem own_more {B k : Nat} {w wr w1 : World} {v v' : Value} {zs : List Int} {x : Int} {o : Obj} (hB : B ≤ wr.heap.size) (hnx : Below B w wr)
    (hown : wr.ownsRow B 3 1 v k (zs.map (Value.int .i64))) (hown' : w1.ownsRow B 3 1 v' (k + 1) (zs.map (Value.int .i64) ++ [.int .i64 x])) (hgrow : (wr.alloc o).grownBy w1 v.ownBlock) :
    w1.ownsRow B 3 1 v' (k + 1) ((zs ++ [x]).map (Value.int .i64)) ∧ Below B w w1 :=
  ⟨by simpa using hown', (hnx.alloc hB o).grown hgrow (by simp; omega) (fun j hj => (hown.lt j hj).1)⟩

end Go.Proofs.Ytgjdopjolokaiaa

/- The reference of layer 11: has, is. -/
namespace Go.Proofs.Ytgjdopjolokaiaa
open Go.RowKit

theorem rlyHas_some (b off n cap : Nat) (l : List Int) (x : Int) (B : Bool) (w : World) (n1 : n ≤ 1000) (hl : Hid (n = l.length))
    (hc : Hid (∀ j, j < n → w.cell? ⟨b, off + j, none⟩ = some (.int .i64 (l.getD j 0))))
    (h1 : Hid ((∃ j, j < n ∧ l.getD j 0 = x) → B = true)) (h2 : Hid ((∀ j, j < n → l.getD j 0 ≠ x) → B = false)) :
    Calls Try.prog 47 #[.slice (some ⟨b, off, none⟩) n cap, .int .i64 x] w fun e w' => e = .returned (.bool B) ∧ w' = w := by
  go_enter Try.func47, Try.ntmps47
  go_wp2_with fail
  go_loopw [5] (fun ii wr => ∃ (k : Nat), k ≤ n ∧ ii = .int .i64 k ∧ w = wr ∧ Hid (∀ j, j < k → l.getD j 0 ≠ x)) (fun ii _ => n - (intOf ii).toNat)
  case atStart => exact ⟨0, by omega, rfl, rfl, fun j hj => by omega⟩
  case round =>
    obtain ⟨k, hk, rfl, rfl, ha⟩ := hrel
    by_cases hlt : k < n
    · have c0 := hc.out k hlt
      by_cases hx : l.getD k 0 = x
      · obtain rfl := h1.out ⟨k, hlt, hx⟩
        rw [hx] at c0
        clear hx
        go_wp2
        go_returns
        exact ⟨rfl, rfl⟩
      · have ha2 : Hid (∀ j, j < k + 1 → l.getD j 0 ≠ x) := fun j hj => by
          by_cases e : j = k
          · rw [e]; exact hx
          · exact ha.out j (by omega)
        generalize l.getD k 0 = y at c0 hx
        go_wp2
        go_roundw
        case rel => exact ⟨k + 1, by omega, by go_num, by first | rfl | trivial, ha2⟩
        case measure => simp [intOf]; omega
    · obtain rfl : k = n := by omega
      obtain rfl := h2.out ha.out
      go_wp2
      go_returns
      exact ⟨rfl, rfl⟩
theorem rlyHas_nil (a : Option Addr) (cap : Nat) (x : Int) (w : World) :
    Calls Try.prog 47 #[.slice a 0 cap, .int .i64 x] w fun e w' => e = .returned (.bool false) ∧ w' = w := by
  go_enter Try.func47, Try.ntmps47
  go_wp2_with fail
  go_loopw [5] (fun ii wr => ii = .int .i64 0 ∧ w = wr) (fun _ _ => 0)
  case atStart => exact ⟨rfl, rfl⟩
  case round =>
    obtain ⟨rfl, rfl⟩ := hrel
    go_wp2
    go_returns
    exact ⟨rfl, rfl⟩
theorem rlyHas_any (v : Value) (l : List Int) (x : Int) (w : World) (hv : Nums w v l) (hn : l.length ≤ 1000) :
    Calls Try.prog 47 #[v, .int .i64 x] w fun e w' => e = .returned (.bool (l.any (fun y => y == x))) ∧ w' = w := by
  obtain ⟨a, cap, rfl, hcap, hh⟩ := hv
  rcases hh with h0 | ⟨b, off, rfl, hb, hc⟩
  · have : l = [] := List.length_eq_zero_iff.1 h0
    subst this
    exact rlyHas_nil a cap x w
  · refine rlyHas_some b off _ cap l x _ w hn (Lib.hid rfl) (Lib.hid hc) (Lib.hid ?_) (Lib.hid ?_)
    · rintro ⟨j, hj, e⟩
      rw [List.any_eq_true]
      rw [List.getD_eq_getElem?_getD, List.getElem?_eq_getElem hj, Option.getD_some] at e
      exact ⟨_, List.getElem_mem hj, by rw [e]; simp⟩
    · intro h
      rw [List.any_eq_false]
      intro y hy
      obtain ⟨j, hj, rfl⟩ := List.getElem_of_mem hy
      have := h j hj
      rw [List.getD_eq_getElem?_getD, List.getElem?_eq_getElem hj, Option.getD_some] at this
      simpa using this
/-- the first fault of a cask that has to be right and lying -/
def liSE (c : Ck) : Int := if ccE c = 0 then (if c.ps = 1 then 0 else 10) else 1
theorem rlyIs_core (nm : ByteArray) (ps dc E V : Int) (a : Option Addr) (n cap : Nat) (w : World) (hV : Hid ((E ≠ 0 → V = 1) ∧ (E = 0 → ps ≠ 1 → V = 10) ∧ (E = 0 → ps = 1 → V = 0)))
    (H1 : Hid (∀ W, Below w.heap.size w W → Calls Try.prog 75 #[.agg #[.string nm, .int .i64 ps, .slice a n cap, .int .i64 dc]] W fun e w' => e = .returned (.int .i64 E) ∧ Below W.heap.size W w')) :
    Calls Try.prog 46 #[.agg #[.string nm, .int .i64 ps, .slice a n cap, .int .i64 dc]] w fun e w' => e = .returned (.int .i64 V) ∧ Below w.heap.size w w' := by
  have F0 := Lib.hid (Quad.new w (.string nm) (.int .i64 ps) (.slice a n cap) (.int .i64 dc) 24)
  go_enter Try.func46, Try.ntmps46
  go_wp2_with fail
  refine (H1.out _ (bel_alloc (Below.refl _ _))).mono ?_
  rintro e w1 ⟨rfl, gg⟩
  replace F0 := Lib.hid (F0.out.below gg)
  have X1 := Lib.hid (bel_alloc gg); clear gg
  obtain ⟨u0, u1, u2, u3, _, _⟩ := F0.out
  by_cases h : E = 0
  · have g : (E != 0) = false := by simp [h]
    by_cases h2 : ps = 1
    · have g2 : (ps != 1) = false := by simp [h2]
      obtain rfl := hV.out.2.2 h h2
      clear h h2 hV
      go_wp2
      go_returns
      exact ⟨rfl, X1.out⟩
    · have g2 : (ps != 1) = true := by simpa using h2
      obtain rfl := hV.out.2.1 h h2
      clear h h2 hV
      go_wp2
      go_returns
      exact ⟨rfl, X1.out⟩
  · have g : (E != 0) = true := by simpa using h
    obtain rfl := hV.out.1 h
    clear h hV
    go_wp2
    go_returns
    exact ⟨rfl, X1.out⟩
theorem rlyIs_any (v : Value) (c : Ck) (w : World) (hv : CkV w v c) :
    Calls Try.prog 46 #[v] w fun e w' => e = .returned (.int .i64 (liSE c)) ∧ Below w.heap.size w w' := by
  have HC : Hid (∀ W, Below w.heap.size w W → _) := Lib.hid fun W hW => refCkk_any v c W (hv.below hW)
  obtain ⟨a, cap, rfl, _⟩ := hv
  refine rlyIs_core _ _ _ (ccE c) _ _ _ _ w (Lib.hid ⟨fun h => ?_, fun h h2 => ?_, fun h h2 => ?_⟩) HC
  · unfold liSE; rw [if_neg h]
  · unfold liSE; rw [if_pos h, if_neg h2]
  · unfold liSE; rw [if_pos h, if_pos h2]
end Go.Proofs.Ytgjdopjolokaiaa

/- A cell below. -/
namespace Go.Proofs.Ytgjdopjolokaiaa
open Go.RowKit

theorem cell_bel {w w' : World} {p : Addr} {v : Value} (h : w.cell? p = some v) (hb : Below w.heap.size w w') : w'.cell? p = some v := by
  rw [hb.cell (World.block_lt_of_cell? w _ h)]; exact h
end Go.Proofs.Ytgjdopjolokaiaa

/- The reference of layer 11: places are checked. -/
namespace Go.Proofs.Ytgjdopjolokaiaa
open Go.RowKit

/-- the first fault of places, for a right cask -/
def plcE (l : List (Int × Int)) (ps : List Int) : Int :=
  if ps.length < 2 then 9 else if 65 < ps.length then 8 else if (List.range (ps.length - 1)).all (fun i => decide (ps.getD i 0 < ps.getD (i + 1) 0)) = false then 5
  else if ps.getD 0 0 ≠ 0 ∨ ps.getD (ps.length - 1) 0 ≠ gX l (l.length - 1) then 5 else if (List.range l.length).all (fun i => ps.any (fun y => y == gX l i)) = false then 7 else 0
def lcE (c : Ck) (ps : List Int) : Int := if liSE c = 0 then plcE c.pf ps else liSE c
theorem plc_asc (ps : List Int) : (List.range (ps.length - 1)).all (fun i => decide (ps.getD i 0 < ps.getD (i + 1) 0)) = true ↔ ∀ i, i + 1 < ps.length → ps.getD i 0 < ps.getD (i + 1) 0 := by
  rw [List.all_eq_true]
  constructor
  · intro h i hi
    exact of_decide_eq_true (h i (List.mem_range.2 (by omega)))
  · intro h i hi
    rw [List.mem_range] at hi
    exact decide_eq_true (h i (by omega))
theorem any_eq_iff (ps : List Int) (x : Int) : ps.any (fun y => y == x) = true ↔ ∃ i, i < ps.length ∧ ps.getD i 0 = x := by
  rw [List.any_eq_true]
  constructor
  · rintro ⟨y, hy, e⟩
    obtain ⟨i, hi, rfl⟩ := List.getElem_of_mem hy
    exact ⟨i, hi, by rw [List.getD_eq_getElem?_getD, List.getElem?_eq_getElem hi, Option.getD_some]; simpa using e⟩
  · rintro ⟨i, hi, e⟩
    rw [List.getD_eq_getElem?_getD, List.getElem?_eq_getElem hi, Option.getD_some] at e
    exact ⟨_, List.getElem_mem hi, by rw [e]; simp⟩
theorem plc_has (l : List (Int × Int)) (ps : List Int) : (List.range l.length).all (fun i => ps.any (fun y => y == gX l i)) = true ↔ ∀ j, j < l.length → ∃ i, i < ps.length ∧ ps.getD i 0 = gX l j := by
  rw [List.all_eq_true]
  constructor
  · intro h j hj
    exact (any_eq_iff _ _).1 (h j (List.mem_range.2 hj))
  · intro h j hj
    rw [List.mem_range] at hj
    exact (any_eq_iff _ _).2 (h j hj)
theorem plcE_iff {l : List (Int × Int)} {ps : List Int} : plcE l ps = 0 ↔ PlR l ps ∧ ps.length ≤ 65 := by
  unfold plcE
  constructor
  · intro h
    split at h
    · omega
    · split at h
      · omega
      · split at h
        · omega
        · rename_i g3
          split at h
          · omega
          · rename_i g4
            split at h
            · omega
            · rename_i g5
              rw [Bool.not_eq_false] at g3 g5
              have g4' : ps.getD 0 0 = 0 ∧ ps.getD (ps.length - 1) 0 = gX l (l.length - 1) := by
                constructor
                · by_cases e : ps.getD 0 0 = 0
                  · exact e
                  · exact absurd (.inl e) g4
                · by_cases e : ps.getD (ps.length - 1) 0 = gX l (l.length - 1)
                  · exact e
                  · exact absurd (.inr e) g4
              exact ⟨⟨by omega, by omega, g4'.1, g4'.2, (plc_asc ps).1 g3, (plc_has l ps).1 g5⟩, by omega⟩
  · rintro ⟨h, h65⟩
    rw [if_neg (by have := h.n0; omega), if_neg (by omega), if_neg (by rw [(plc_asc ps).2 h.asc]; simp), if_neg (by rintro (e | e); exact e h.z; exact e h.e), if_neg (by rw [(plc_has l ps).2 h.has]; simp)]
theorem rlyChk_bad (nm : ByteArray) (cps dc E : Int) (a : Option Addr) (m cap : Nat) (u : Value) (w : World) (e1 : (E == 0) = false) (e2 : (E != 0) = true)
    (H1 : Hid (∀ W, Below w.heap.size w W → Calls Try.prog 46 #[.agg #[.string nm, .int .i64 cps, .slice a m cap, .int .i64 dc]] W fun e w' => e = .returned (.int .i64 E) ∧ Below W.heap.size W w')) :
    Calls Try.prog 17 #[.agg #[.string nm, .int .i64 cps, .slice a m cap, .int .i64 dc], u] w fun e w' => e = .returned (.int .i64 E) ∧ Below w.heap.size w w' := by
  go_enter Try.func17, Try.ntmps17
  go_wp2_with fail
  refine (H1.out _ (bel_alloc (Below.refl _ _))).mono ?_
  rintro e w1 ⟨rfl, gg⟩
  have X1 := Lib.hid (bel_alloc gg); clear gg
  go_wp2
  go_returns
  exact ⟨rfl, X1.out⟩
theorem rlyChk_few (nm : ByteArray) (cps dc : Int) (a : Option Addr) (m cap : Nat) (a2 : Option Addr) (n cap2 : Nat) (w : World) (h : n < 2)
    (H1 : Hid (∀ W, Below w.heap.size w W → Calls Try.prog 46 #[.agg #[.string nm, .int .i64 cps, .slice a m cap, .int .i64 dc]] W fun e w' => e = .returned (.int .i64 0) ∧ Below W.heap.size W w')) :
    Calls Try.prog 17 #[.agg #[.string nm, .int .i64 cps, .slice a m cap, .int .i64 dc], .slice a2 n cap2] w fun e w' => e = .returned (.int .i64 9) ∧ Below w.heap.size w w' := by
  go_enter Try.func17, Try.ntmps17
  go_wp2_with fail
  refine (H1.out _ (bel_alloc (Below.refl _ _))).mono ?_
  rintro e w1 ⟨rfl, gg⟩
  have X1 := Lib.hid (bel_alloc gg); clear gg
  go_wp2
  go_returns
  exact ⟨rfl, X1.out⟩
theorem rlyChk_many (nm : ByteArray) (cps dc : Int) (a : Option Addr) (m cap : Nat) (a2 : Option Addr) (n cap2 : Nat) (w : World) (h : 65 < n) (h2 : n ≤ 9223372036854775807)
    (H1 : Hid (∀ W, Below w.heap.size w W → Calls Try.prog 46 #[.agg #[.string nm, .int .i64 cps, .slice a m cap, .int .i64 dc]] W fun e w' => e = .returned (.int .i64 0) ∧ Below W.heap.size W w')) :
    Calls Try.prog 17 #[.agg #[.string nm, .int .i64 cps, .slice a m cap, .int .i64 dc], .slice a2 n cap2] w fun e w' => e = .returned (.int .i64 8) ∧ Below w.heap.size w w' := by
  go_enter Try.func17, Try.ntmps17
  go_wp2_with fail
  refine (H1.out _ (bel_alloc (Below.refl _ _))).mono ?_
  rintro e w1 ⟨rfl, gg⟩
  have X1 := Lib.hid (bel_alloc gg); clear gg
  go_wp2
  go_returns
  exact ⟨rfl, X1.out⟩
set_option maxRecDepth 100000 in
set_option maxHeartbeats 16000000 in
theorem rlyChk_some (nm : ByteArray) (cps dc : Int) (bp op m cap : Nat) (b off n cap2 : Nat) (ps : List Int) (l : List (Int × Int)) (E : Int) (w : World) (n0 : 2 ≤ n) (n1 : n ≤ 65) (hn : Hid (n = ps.length)) (m0 : 1 ≤ m) (m1 : m ≤ 32) (hb : b < w.heap.size) (hbp : bp < w.heap.size)
    (hc : Hid (∀ j, j < n → w.cell? ⟨b, off + j, none⟩ = some (.int .i64 (ps.getD j 0))))
    (hp : Hid (∀ j, j < m → w.cell? ⟨bp, op + j * 2, none⟩ = some (.int .i64 (gX l j))))
    (hu : Hid (∀ W, Below w.heap.size w W → Nums W (.slice (some ⟨b, off, none⟩) n cap2) ps))
    (h5 : Hid ((∃ i, i + 1 < n ∧ ps.getD (i + 1) 0 ≤ ps.getD i 0) → E = 5)) (h6 : Hid ((∀ i, i + 1 < n → ps.getD i 0 < ps.getD (i + 1) 0) → (ps.getD 0 0 ≠ 0 ∨ ps.getD (n - 1) 0 ≠ gX l (m - 1)) → E = 5))
    (h7 : Hid ((∀ i, i + 1 < n → ps.getD i 0 < ps.getD (i + 1) 0) → ps.getD 0 0 = 0 → ps.getD (n - 1) 0 = gX l (m - 1) → (∃ j, j < m ∧ ps.any (fun y => y == gX l j) = false) → E = 7))
    (h0 : Hid ((∀ i, i + 1 < n → ps.getD i 0 < ps.getD (i + 1) 0) → ps.getD 0 0 = 0 → ps.getD (n - 1) 0 = gX l (m - 1) → (∀ j, j < m → ps.any (fun y => y == gX l j) = true) → E = 0))
    (H1 : Hid (∀ W, Below w.heap.size w W → Calls Try.prog 46 #[.agg #[.string nm, .int .i64 cps, .slice (some ⟨bp, op, none⟩) m cap, .int .i64 dc]] W fun e w' => e = .returned (.int .i64 0) ∧ Below W.heap.size W w')) :
    Calls Try.prog 17 #[.agg #[.string nm, .int .i64 cps, .slice (some ⟨bp, op, none⟩) m cap, .int .i64 dc], .slice (some ⟨b, off, none⟩) n cap2] w fun e w' => e = .returned (.int .i64 E) ∧ Below w.heap.size w w' := by
  have F0 := Lib.hid (Quad.new w (.string nm) (.int .i64 cps) (.slice (some ⟨bp, op, none⟩) m cap) (.int .i64 dc) 24)
  go_enter Try.func17, Try.ntmps17
  go_wp2_with fail
  refine (H1.out _ (bel_alloc (Below.refl _ _))).mono ?_
  rintro e w1 ⟨rfl, gg⟩
  replace F0 := Lib.hid (F0.out.below gg)
  have X1 := Lib.hid (bel_alloc gg); clear gg
  go_wp2_with fail
  go_loopw [6] (fun ii wr => ∃ (j : Nat), j + 1 ≤ n ∧ ii = .int .i64 ((j : Int) + 1) ∧ Hid (Below w1.heap.size w1 wr) ∧ Hid (∀ i, i + 1 < j + 1 → ps.getD i 0 < ps.getD (i + 1) 0)) (fun ii _ => n - (intOf ii).toNat)
  case atStart => exact ⟨0, by omega, rfl, Below.refl _ _, fun i hi => by omega⟩
  case round =>
    obtain ⟨j, hj, rfl, hB, hs⟩ := hrel
    have hB2 := Lib.hid (bel_trans X1.out hB.out)
    by_cases hlt : j + 1 < n
    · have c0 : wr.cell? ⟨b, off + j, none⟩ = some (.int .i64 (ps.getD j 0)) := by rw [(bcell hB2.out).1 _ _ hb]; exact hc.out j (by omega)
      have c1 : wr.cell? ⟨b, off + (j + 1), none⟩ = some (.int .i64 (ps.getD (j + 1) 0)) := by rw [(bcell hB2.out).1 _ _ hb]; exact hc.out (j + 1) hlt
      have HG : Hid (ps.getD j 0 < ps.getD (j + 1) 0 → ∀ i, i + 1 < j + 1 + 1 → ps.getD i 0 < ps.getD (i + 1) 0) := fun h i hi => by
        by_cases e : i = j
        · rw [e]; exact h
        · exact hs.out i (by omega)
      have HN : Hid (ps.getD (j + 1) 0 ≤ ps.getD j 0 → E = 5) := fun h => h5.out ⟨j, hlt, h⟩
      generalize ps.getD j 0 = x at *
      generalize ps.getD (j + 1) 0 = y at *
      by_cases hxy : y ≤ x
      · obtain rfl := HN.out hxy
        have hd : decide (y ≤ x) = true := decide_eq_true hxy
        clear HN HG
        go_wp2
        go_quiet (fail)
        go_wp2
        go_returns
        exact ⟨rfl, bel_trans hB2.out (bel_drewN _ _)⟩
      · have hd : decide (y ≤ x) = false := decide_eq_false hxy
        replace HG := Lib.hid (HG.out (by omega))
        clear HN
        go_wp2
        go_quiet (fail)
        go_wp2
        go_roundw
        case rel => exact ⟨j + 1, by omega, by go_num, bel_trans hB.out (bel_drewN _ _), HG.out⟩
        case measure => simp [intOf]; omega
    · have hjn : n = j + 1 := by omega
      have hasc : Hid (∀ i, i + 1 < n → ps.getD i 0 < ps.getD (i + 1) 0) := Lib.hid (by rw [hjn]; exact hs.out)
      replace F0 := Lib.hid (F0.out.below hB.out)
      obtain ⟨y0, y1, y2, y3, _, _⟩ := F0.out
      have c0 : wr.cell? ⟨b, off, none⟩ = some (.int .i64 (ps.getD 0 0)) := by rw [(bcell hB2.out).1 _ _ hb]; exact hc.out 0 (by omega)
      have c1 : wr.cell? ⟨b, off + j, none⟩ = some (.int .i64 (ps.getD j 0)) := by rw [(bcell hB2.out).1 _ _ hb]; exact hc.out j (by omega)
      obtain ⟨t, rfl⟩ : ∃ t, m = t + 1 := ⟨m - 1, by omega⟩
      have d1 : wr.cell? ⟨bp, op + t * 2, none⟩ = some (.int .i64 (gX l t)) := by rw [(bcell hB2.out).1 _ _ hbp]; exact hp.out t (by omega)
      have wj : IntKind.i64.wrap ((n : Int) - 1) = (j : Int) := by rw [wrap_in _ ⟨by omega, by omega⟩]; omega
      have lj : (j : Int) < (n : Int) := by omega
      have l0 : (0 : Int) < (n : Int) := by omega
      have wk : IntKind.i64.wrap (j : Int) = (j : Int) := wrap_in _ ⟨by omega, by omega⟩
      have wt : IntKind.i64.wrap ((t : Int) + 1 - 1) = (t : Int) := by rw [wrap_in _ ⟨by omega, by omega⟩]; omega
      have wu : IntKind.i64.wrap (t : Int) = (t : Int) := wrap_in _ ⟨by omega, by omega⟩
      have H6 := Lib.hid (h6.out hasc.out)
      have H7 := Lib.hid (h7.out hasc.out)
      have H0 := Lib.hid (h0.out hasc.out)
      rw [Nat.add_sub_cancel, show n - 1 = j by omega] at H6 H7 H0
      clear hs h5 h6 h7 h0 hc
      replace hjn := Lib.hid hjn
      generalize ps.getD 0 0 = z at *
      generalize ps.getD j 0 = x at *
      by_cases hz : z = 0
      · have z1 : (z != 0) = false := by simp [hz]
        by_cases hx : x = gX l t
        · have x1 : (x != gX l t) = false := by simp [hx]
          replace H7 := Lib.hid (H7.out hz hx)
          replace H0 := Lib.hid (H0.out hz hx)
          clear H6 hz hx
          generalize gX l t = X at *
          go_wp2
          go_quiet (fail)
          go_wp2_with fail
          go_loopw [8] (fun ii wr2 => ∃ (k : Nat), k ≤ t + 1 ∧ ii = .int .i64 (k : Int) ∧ Hid (Below w.heap.size w wr2) ∧ Hid (∀ i, i < k → ps.any (fun y => y == gX l i) = true)) (fun ii _ => t + 1 - (intOf ii).toNat)
          case atStart => exact ⟨0, by omega, rfl, Lib.hid (bel_trans hB2.out (bel_drewN _ _)), fun i hi => by omega⟩
          case round =>
            obtain ⟨k, hk, rfl, hB3, ha⟩ := hrel
            clear c0 c1 d1 y0 y1 y2 y3
            by_cases hlk : k < t + 1
            · have g0 : wr.cell? ⟨bp, op + k * 2, none⟩ = some (.int .i64 (gX l k)) := by rw [(bcell hB3.out).1 _ _ hbp]; exact hp.out k hlk
              have HA := Lib.hid (rlyHas_any _ ps (gX l k) wr (hu.out _ hB3.out) (by rw [← hn.out]; omega))
              cases hq : ps.any (fun y => y == gX l k) with
              | true =>
                have ha2 : Hid (∀ i, i < k + 1 → ps.any (fun y => y == gX l i) = true) := fun i hi => by
                  by_cases e : i = k
                  · rw [e]; exact hq
                  · exact ha.out i (by omega)
                rw [hq] at HA
                clear hq
                generalize gX l k = Y at *
                have l2 : (k : Int) < (t : Int) + 1 := by omega
                go_wp2_with fail
                refine HA.out.mono ?_
                rintro e w2 ⟨rfl, hw⟩
                subst hw
                go_wp2
                go_roundw
                case rel => exact ⟨k + 1, by omega, by go_num, hB3, ha2⟩
                case measure => simp [intOf]; omega
              | false =>
                obtain rfl := H7.out ⟨k, hlk, hq⟩
                rw [hq] at HA
                clear hq
                generalize gX l k = Y at *
                have l2 : (k : Int) < (t : Int) + 1 := by omega
                go_wp2_with fail
                refine HA.out.mono ?_
                rintro e w2 ⟨rfl, hw⟩
                subst hw
                go_wp2
                go_returns
                exact ⟨rfl, hB3.out⟩
            · obtain rfl : k = t + 1 := by omega
              obtain rfl := H0.out ha.out
              go_wp2
              go_returns
              exact ⟨rfl, hB3.out⟩
        · have x1 : (x != gX l t) = true := by simpa using hx
          obtain rfl := H6.out (.inr hx)
          clear H6 H7 H0 hz hx
          generalize gX l t = X at *
          go_wp2
          go_quiet (fail)
          go_wp2
          go_returns
          exact ⟨rfl, bel_trans hB2.out (bel_drewN _ _)⟩
      · have z1 : (z != 0) = true := by simpa using hz
        obtain rfl := H6.out (.inl hz)
        clear H6 H7 H0 hz
        generalize gX l t = X at *
        go_wp2
        go_quiet (fail)
        go_wp2
        go_returns
        exact ⟨rfl, bel_trans hB2.out (bel_drewN _ _)⟩
end Go.Proofs.Ytgjdopjolokaiaa

/- Package cask: isNamed, isStrange, isName, isPosition, isVolume. -/
namespace Go.Proofs.Ytgjdopjolokaiaa
open Go.RowKit

/-- a rune that may stand in a name -/
def nmR (x : Nat) : Bool := decide (97 ≤ x ∧ x ≤ 122) || decide (65 ≤ x ∧ x ≤ 90) || decide (48 ≤ x ∧ x ≤ 57) || decide (x = 45) || decide (x = 46)
theorem nmR_iff (x : Nat) : nmR x = true ↔ (97 ≤ x ∧ x ≤ 122) ∨ (65 ≤ x ∧ x ≤ 90) ∨ (48 ≤ x ∧ x ≤ 57) ∨ x = 45 ∨ x = 46 := by
  simp [nmR, or_assoc]
theorem nmR_C (c : UInt8) : nmR c.toNat = nmC c := rfl
/-- which is not one -/
def stR (x : Nat) : Bool := !nmR x
theorem named_core (x : Nat) (B : Bool) (w : World) (hx : x ≤ 1114111) (h1 : Hid (nmR x = true → B = true)) (h0 : Hid (nmR x = false → B = false)) :
    Calls Try.prog 108 #[.int .i32 (x : Int)] w fun e w' => e = .returned (.bool B) ∧ w' = w := by
  have cs : (97 ≤ x ∧ x ≤ 122) ∨ (65 ≤ x ∧ x ≤ 90) ∨ (48 ≤ x ∧ x ≤ 57) ∨ (45 ≤ x ∧ x ≤ 45) ∨ (46 ≤ x ∧ x ≤ 46) ∨ (0 ≤ x ∧ x ≤ 44) ∨ (47 ≤ x ∧ x ≤ 47) ∨ (58 ≤ x ∧ x ≤ 64) ∨ (91 ≤ x ∧ x ≤ 96) ∨ (123 ≤ x ∧ x ≤ 1114111) := by omega
  rcases cs with cs | cs | cs | cs | cs | cs | cs | cs | cs | cs
  · obtain rfl := h1.out ((nmR_iff _).2 (by omega))
    clear h0 h1
    have za0 : decide ((97 : Int) ≤ (x : Int)) = true := decide_eq_true (by omega)
    have za1 : decide ((x : Int) ≤ 122) = true := decide_eq_true (by omega)
    have zb0 : decide ((65 : Int) ≤ (x : Int)) = true := decide_eq_true (by omega)
    have zb1 : decide ((x : Int) ≤ 90) = false := decide_eq_false (by omega)
    have zc0 : decide ((48 : Int) ≤ (x : Int)) = true := decide_eq_true (by omega)
    have zc1 : decide ((x : Int) ≤ 57) = false := decide_eq_false (by omega)
    have ze : ((x : Int) == 45) = false := by simp only [beq_eq_false_iff_ne, ne_eq]; omega
    have zf : ((x : Int) == 46) = false := by simp only [beq_eq_false_iff_ne, ne_eq]; omega
    clear cs
    go_enter Try.func108, Try.ntmps108
    go_wp2
    go_returns
    exact ⟨rfl, rfl⟩
  · obtain rfl := h1.out ((nmR_iff _).2 (by omega))
    clear h0 h1
    have za0 : decide ((97 : Int) ≤ (x : Int)) = false := decide_eq_false (by omega)
    have za1 : decide ((x : Int) ≤ 122) = true := decide_eq_true (by omega)
    have zb0 : decide ((65 : Int) ≤ (x : Int)) = true := decide_eq_true (by omega)
    have zb1 : decide ((x : Int) ≤ 90) = true := decide_eq_true (by omega)
    have zc0 : decide ((48 : Int) ≤ (x : Int)) = true := decide_eq_true (by omega)
    have zc1 : decide ((x : Int) ≤ 57) = false := decide_eq_false (by omega)
    have ze : ((x : Int) == 45) = false := by simp only [beq_eq_false_iff_ne, ne_eq]; omega
    have zf : ((x : Int) == 46) = false := by simp only [beq_eq_false_iff_ne, ne_eq]; omega
    clear cs
    go_enter Try.func108, Try.ntmps108
    go_wp2
    go_returns
    exact ⟨rfl, rfl⟩
  · obtain rfl := h1.out ((nmR_iff _).2 (by omega))
    clear h0 h1
    have za0 : decide ((97 : Int) ≤ (x : Int)) = false := decide_eq_false (by omega)
    have za1 : decide ((x : Int) ≤ 122) = true := decide_eq_true (by omega)
    have zb0 : decide ((65 : Int) ≤ (x : Int)) = false := decide_eq_false (by omega)
    have zb1 : decide ((x : Int) ≤ 90) = true := decide_eq_true (by omega)
    have zc0 : decide ((48 : Int) ≤ (x : Int)) = true := decide_eq_true (by omega)
    have zc1 : decide ((x : Int) ≤ 57) = true := decide_eq_true (by omega)
    have ze : ((x : Int) == 45) = false := by simp only [beq_eq_false_iff_ne, ne_eq]; omega
    have zf : ((x : Int) == 46) = false := by simp only [beq_eq_false_iff_ne, ne_eq]; omega
    clear cs
    go_enter Try.func108, Try.ntmps108
    go_wp2
    go_returns
    exact ⟨rfl, rfl⟩
  · obtain rfl := h1.out ((nmR_iff _).2 (by omega))
    clear h0 h1
    have za0 : decide ((97 : Int) ≤ (x : Int)) = false := decide_eq_false (by omega)
    have za1 : decide ((x : Int) ≤ 122) = true := decide_eq_true (by omega)
    have zb0 : decide ((65 : Int) ≤ (x : Int)) = false := decide_eq_false (by omega)
    have zb1 : decide ((x : Int) ≤ 90) = true := decide_eq_true (by omega)
    have zc0 : decide ((48 : Int) ≤ (x : Int)) = false := decide_eq_false (by omega)
    have zc1 : decide ((x : Int) ≤ 57) = true := decide_eq_true (by omega)
    have ze : ((x : Int) == 45) = true := by simp only [beq_iff_eq]; omega
    have zf : ((x : Int) == 46) = false := by simp only [beq_eq_false_iff_ne, ne_eq]; omega
    clear cs
    go_enter Try.func108, Try.ntmps108
    go_wp2
    go_returns
    exact ⟨rfl, rfl⟩
  · obtain rfl := h1.out ((nmR_iff _).2 (by omega))
    clear h0 h1
    have za0 : decide ((97 : Int) ≤ (x : Int)) = false := decide_eq_false (by omega)
    have za1 : decide ((x : Int) ≤ 122) = true := decide_eq_true (by omega)
    have zb0 : decide ((65 : Int) ≤ (x : Int)) = false := decide_eq_false (by omega)
    have zb1 : decide ((x : Int) ≤ 90) = true := decide_eq_true (by omega)
    have zc0 : decide ((48 : Int) ≤ (x : Int)) = false := decide_eq_false (by omega)
    have zc1 : decide ((x : Int) ≤ 57) = true := decide_eq_true (by omega)
    have ze : ((x : Int) == 45) = false := by simp only [beq_eq_false_iff_ne, ne_eq]; omega
    have zf : ((x : Int) == 46) = true := by simp only [beq_iff_eq]; omega
    clear cs
    go_enter Try.func108, Try.ntmps108
    go_wp2
    go_returns
    exact ⟨rfl, rfl⟩
  · obtain rfl := h0.out (by rw [Bool.eq_false_iff, ne_eq, nmR_iff]; omega)
    clear h0 h1
    have za0 : decide ((97 : Int) ≤ (x : Int)) = false := decide_eq_false (by omega)
    have za1 : decide ((x : Int) ≤ 122) = true := decide_eq_true (by omega)
    have zb0 : decide ((65 : Int) ≤ (x : Int)) = false := decide_eq_false (by omega)
    have zb1 : decide ((x : Int) ≤ 90) = true := decide_eq_true (by omega)
    have zc0 : decide ((48 : Int) ≤ (x : Int)) = false := decide_eq_false (by omega)
    have zc1 : decide ((x : Int) ≤ 57) = true := decide_eq_true (by omega)
    have ze : ((x : Int) == 45) = false := by simp only [beq_eq_false_iff_ne, ne_eq]; omega
    have zf : ((x : Int) == 46) = false := by simp only [beq_eq_false_iff_ne, ne_eq]; omega
    clear cs
    go_enter Try.func108, Try.ntmps108
    go_wp2
    go_returns
    exact ⟨rfl, rfl⟩
  · obtain rfl := h0.out (by rw [Bool.eq_false_iff, ne_eq, nmR_iff]; omega)
    clear h0 h1
    have za0 : decide ((97 : Int) ≤ (x : Int)) = false := decide_eq_false (by omega)
    have za1 : decide ((x : Int) ≤ 122) = true := decide_eq_true (by omega)
    have zb0 : decide ((65 : Int) ≤ (x : Int)) = false := decide_eq_false (by omega)
    have zb1 : decide ((x : Int) ≤ 90) = true := decide_eq_true (by omega)
    have zc0 : decide ((48 : Int) ≤ (x : Int)) = false := decide_eq_false (by omega)
    have zc1 : decide ((x : Int) ≤ 57) = true := decide_eq_true (by omega)
    have ze : ((x : Int) == 45) = false := by simp only [beq_eq_false_iff_ne, ne_eq]; omega
    have zf : ((x : Int) == 46) = false := by simp only [beq_eq_false_iff_ne, ne_eq]; omega
    clear cs
    go_enter Try.func108, Try.ntmps108
    go_wp2
    go_returns
    exact ⟨rfl, rfl⟩
  · obtain rfl := h0.out (by rw [Bool.eq_false_iff, ne_eq, nmR_iff]; omega)
    clear h0 h1
    have za0 : decide ((97 : Int) ≤ (x : Int)) = false := decide_eq_false (by omega)
    have za1 : decide ((x : Int) ≤ 122) = true := decide_eq_true (by omega)
    have zb0 : decide ((65 : Int) ≤ (x : Int)) = false := decide_eq_false (by omega)
    have zb1 : decide ((x : Int) ≤ 90) = true := decide_eq_true (by omega)
    have zc0 : decide ((48 : Int) ≤ (x : Int)) = true := decide_eq_true (by omega)
    have zc1 : decide ((x : Int) ≤ 57) = false := decide_eq_false (by omega)
    have ze : ((x : Int) == 45) = false := by simp only [beq_eq_false_iff_ne, ne_eq]; omega
    have zf : ((x : Int) == 46) = false := by simp only [beq_eq_false_iff_ne, ne_eq]; omega
    clear cs
    go_enter Try.func108, Try.ntmps108
    go_wp2
    go_returns
    exact ⟨rfl, rfl⟩
  · obtain rfl := h0.out (by rw [Bool.eq_false_iff, ne_eq, nmR_iff]; omega)
    clear h0 h1
    have za0 : decide ((97 : Int) ≤ (x : Int)) = false := decide_eq_false (by omega)
    have za1 : decide ((x : Int) ≤ 122) = true := decide_eq_true (by omega)
    have zb0 : decide ((65 : Int) ≤ (x : Int)) = true := decide_eq_true (by omega)
    have zb1 : decide ((x : Int) ≤ 90) = false := decide_eq_false (by omega)
    have zc0 : decide ((48 : Int) ≤ (x : Int)) = true := decide_eq_true (by omega)
    have zc1 : decide ((x : Int) ≤ 57) = false := decide_eq_false (by omega)
    have ze : ((x : Int) == 45) = false := by simp only [beq_eq_false_iff_ne, ne_eq]; omega
    have zf : ((x : Int) == 46) = false := by simp only [beq_eq_false_iff_ne, ne_eq]; omega
    clear cs
    go_enter Try.func108, Try.ntmps108
    go_wp2
    go_returns
    exact ⟨rfl, rfl⟩
  · obtain rfl := h0.out (by rw [Bool.eq_false_iff, ne_eq, nmR_iff]; omega)
    clear h0 h1
    have za0 : decide ((97 : Int) ≤ (x : Int)) = true := decide_eq_true (by omega)
    have za1 : decide ((x : Int) ≤ 122) = false := decide_eq_false (by omega)
    have zb0 : decide ((65 : Int) ≤ (x : Int)) = true := decide_eq_true (by omega)
    have zb1 : decide ((x : Int) ≤ 90) = false := decide_eq_false (by omega)
    have zc0 : decide ((48 : Int) ≤ (x : Int)) = true := decide_eq_true (by omega)
    have zc1 : decide ((x : Int) ≤ 57) = false := decide_eq_false (by omega)
    have ze : ((x : Int) == 45) = false := by simp only [beq_eq_false_iff_ne, ne_eq]; omega
    have zf : ((x : Int) == 46) = false := by simp only [beq_eq_false_iff_ne, ne_eq]; omega
    clear cs
    go_enter Try.func108, Try.ntmps108
    go_wp2
    go_returns
    exact ⟨rfl, rfl⟩
theorem named_any (x : Nat) (w : World) (hx : x ≤ 1114111) : Calls Try.prog 108 #[.int .i32 (x : Int)] w fun e w' => e = .returned (.bool (nmR x)) ∧ w' = w :=
  named_core x _ w hx (fun h => h) (fun h => h)
theorem strange_any (x : Nat) (w : World) (hx : x ≤ 1114111) : Calls Try.prog 102 #[.int .i32 (x : Int)] w fun e w' => e = .returned (.bool (stR x)) ∧ w' = w := by
  have HN := Lib.hid (fun W => named_any x W hx)
  unfold stR
  generalize nmR x = B at *
  go_enter Try.func102, Try.ntmps102
  go_wp2_with fail
  refine (HN.out _).mono ?_
  rintro e w1 ⟨rfl, gg⟩
  subst gg
  cases B <;> (go_wp2; go_returns; exact ⟨rfl, rfl⟩)
theorem strange_pred (w : World) : Go.Proofs.PredAtRunes Try.prog 102 #[] stR w := fun W x hx _ =>
  (strange_any x W hx).mono fun _ _ ⟨h, h2⟩ => ⟨h, 0, h2⟩

/-! ### a name has no strange rune -/
theorem idx_good (s : ByteArray) : ∀ f pos, (∀ i (h : i < s.size), pos ≤ i → nmC s[i] = true) → Lib.idxFuncFrom stR true s f pos = -1
  | 0, _, _ => rfl
  | f + 1, pos, h => by
    unfold Lib.idxFuncFrom
    by_cases hp : pos < s.size
    · have hn := h pos hp (Nat.le_refl _)
      have ha : (s[pos]'hp).toNat < 128 := by rw [nmC_iff] at hn; omega
      rw [if_pos hp, decode_ascii s pos hp ha]
      have hs : stR (s[pos]'hp).toNat = false := by unfold stR; rw [nmR_C, hn]; rfl
      simp only [hs, Bool.false_eq_true, if_false]
      exact idx_good s f (pos + 1) fun i hi hle => h i hi (by omega)
    · rw [if_neg hp]
theorem idx_bad (s : ByteArray) (k : Nat) (hk : k < s.size) (hb : nmC s[k] = false) : ∀ f pos, pos ≤ k → k < pos + f → (∀ i (h : i < s.size), pos ≤ i → i < k → nmC s[i] = true) → 0 ≤ Lib.idxFuncFrom stR true s f pos
  | 0, _, h1, h2, _ => by omega
  | f + 1, pos, h1, h2, h => by
    unfold Lib.idxFuncFrom
    have hp : pos < s.size := by omega
    rw [if_pos hp]
    by_cases e : pos = k
    · subst e
      have hs : stR (Utf8.decode s pos).1 = true := by
        by_cases ha : (s[pos]'hp).toNat < 128
        · rw [decode_ascii s pos hp ha]; show stR (s[pos]'hp).toNat = true
          unfold stR; rw [nmR_C, hb]; rfl
        · have := (decode_high s pos hp (by omega)).1
          unfold stR
          have hn : nmR (Utf8.decode s pos).1 = false := by rw [Bool.eq_false_iff, ne_eq, nmR_iff]; omega
          rw [hn]; rfl
      rw [if_pos hs]; omega
    · have hn := h pos hp (Nat.le_refl _) (by omega)
      have ha : (s[pos]'hp).toNat < 128 := by rw [nmC_iff] at hn; omega
      rw [decode_ascii s pos hp ha]
      have hs : stR (s[pos]'hp).toNat = false := by unfold stR; rw [nmR_C, hn]; rfl
      simp only [hs, Bool.false_eq_true, if_false]
      exact idx_bad s k hk hb f (pos + 1) (by omega) (by omega) fun i hi hle hlt => h i hi (by omega) hlt
theorem all_bytes {p : UInt8 → Bool} (s : ByteArray) : s.data.toList.all p = true ↔ ∀ i (h : i < s.size), p s[i] = true := by
  rw [List.all_eq_true]
  constructor
  · intro h i hi
    refine h _ ?_
    show s.data[i] ∈ s.data.toList
    exact List.getElem_mem (l := s.data.toList) (by simpa using hi)
  · intro h x hx
    obtain ⟨i, hi, rfl⟩ := List.getElem_of_mem hx
    exact h i (by simpa using hi)
theorem first_bad {p : UInt8 → Bool} (s : ByteArray) (h : ¬ ∀ i (h : i < s.size), p s[i] = true) : ∃ k, ∃ hk : k < s.size, p s[k] = false ∧ ∀ i (h : i < s.size), i < k → p s[i] = true := by
  have h' : ∃ k, ∃ hk : k < s.size, p s[k] = false := by
    simp only [Classical.not_forall] at h
    obtain ⟨k, hk, h⟩ := h
    exact ⟨k, hk, by simpa using h⟩
  obtain ⟨n, hn⟩ := h'
  induction n using Nat.strongRecOn with
  | ind n ih =>
    by_cases g : ∀ i (h : i < s.size), i < n → p s[i] = true
    · obtain ⟨hk, hb⟩ := hn
      exact ⟨n, hk, hb, g⟩
    · simp only [Classical.not_forall] at g
      obtain ⟨i, hi, hlt, hb⟩ := g
      exact ih i hlt ⟨hi, by simpa using hb⟩
theorem idx_names (s : ByteArray) : decide (0 ≤ Lib.idxFunc stR true s) = !s.data.toList.all nmC := by
  by_cases h : ∀ i (h : i < s.size), nmC s[i] = true
  · rw [(all_bytes s).2 h]
    unfold Lib.idxFunc
    rw [idx_good s s.size 0 fun i hi _ => h i hi]
    rfl
  · have hn : s.data.toList.all nmC = false := by rw [Bool.eq_false_iff, ne_eq, all_bytes]; exact h
    rw [hn]
    obtain ⟨k, hk, hb, hg⟩ := first_bad s h
    exact decide_eq_true (idx_bad s k hk hb s.size 0 (by omega) (by omega) fun i hi _ hlt => hg i hi hlt)
theorem strange_calls : ∀ args w, (callFunc 102 args).run Try.prog w = .ok (.enter 102 args) w := enters_of Try.func102 (by kernel_rfl) rfl
theorem allow_any (s : ByteArray) (w : World) : Calls Try.prog 101 #[.string s, .func (.func 102) #[] #[]] w fun e w' => e = .returned (.bool (!s.data.toList.all nmC)) ∧ Below w.heap.size w w' := by
  have := Try.strings_ContainsFunc_runes 102 #[] strange_calls stR s w (strange_pred w)
  rwa [idx_names] at this
end Go.Proofs.Ytgjdopjolokaiaa

/- Package cask: isName, isPosition, isVolume, Check. -/
namespace Go.Proofs.Ytgjdopjolokaiaa
open Go.RowKit

theorem isPos_any (n : Int) (w : World) : Calls Try.prog 93 #[.int .i64 n] w fun e w' => e = .returned (.bool (decide (n = 1 ∨ n = 2))) ∧ w' = w := by
  by_cases h1 : n = 1
  · subst h1
    go_enter Try.func93, Try.ntmps93
    go_wp2
    go_returns
    exact ⟨rfl, rfl⟩
  · by_cases h2 : n = 2
    · subst h2
      go_enter Try.func93, Try.ntmps93
      go_wp2
      go_returns
      exact ⟨rfl, rfl⟩
    · rw [decide_eq_false (show ¬ (n = 1 ∨ n = 2) by omega)]
      have e1 : (n == 1) = false := by simpa using h1
      have e2 : (n == 2) = false := by simpa using h2
      clear h1 h2
      go_enter Try.func93, Try.ntmps93
      go_wp2
      go_returns
      exact ⟨rfl, rfl⟩
theorem isVol_any (n : Int) (w : World) : Calls Try.prog 94 #[.int .i64 n] w fun e w' => e = .returned (.bool (decide (0 ≤ n ∧ n ≤ 1073741824))) ∧ w' = w := by
  by_cases h1 : 0 ≤ n
  · by_cases h2 : n ≤ 1073741824
    · rw [decide_eq_true (show 0 ≤ n ∧ n ≤ 1073741824 by omega)]
      have e1 : decide (0 ≤ n) = true := decide_eq_true h1
      have e2 : decide (n ≤ 1073741824) = true := decide_eq_true h2
      clear h1 h2
      go_enter Try.func94, Try.ntmps94
      go_wp2
      go_returns
      exact ⟨rfl, rfl⟩
    · rw [decide_eq_false (show ¬ (0 ≤ n ∧ n ≤ 1073741824) by omega)]
      have e1 : decide (0 ≤ n) = true := decide_eq_true h1
      have e2 : decide (n ≤ 1073741824) = false := decide_eq_false h2
      clear h1 h2
      go_enter Try.func94, Try.ntmps94
      go_wp2
      go_returns
      exact ⟨rfl, rfl⟩
  · rw [decide_eq_false (show ¬ (0 ≤ n ∧ n ≤ 1073741824) by omega)]
    have e1 : decide (0 ≤ n) = false := decide_eq_false h1
    clear h1
    go_enter Try.func94, Try.ntmps94
    go_wp2
    go_returns
    exact ⟨rfl, rfl⟩
theorem isName_core (s : ByteArray) (A B : Bool) (w : World) (hs : s.size ≤ 9223372036854775807) (hA : Hid (s.data.toList.all nmC = A)) (hB : Hid (B = (A && decide (1 ≤ s.size) && decide (s.size ≤ 64))))
    (HC : Hid (∀ W, Calls Try.prog 101 #[.string s, .func (.func 102) #[] #[]] W fun e w' => e = .returned (.bool (!A)) ∧ Below W.heap.size W w')) :
    Calls Try.prog 92 #[.string s] w fun e w' => e = .returned (.bool B) ∧ Below w.heap.size w w' := by
  have hl : s.toList = s.data.toList := ByteArray.toList_eq s
  by_cases h0 : s.size = 0
  · have g1 : s.data.toList = [] := List.eq_nil_of_length_eq_zero (by simpa using h0)
    have g0 : s.toList.isEmpty = true := by rw [hl, g1]; rfl
    obtain rfl : B = false := by rw [hB.out]; simp [h0]
    clear hl g1 h0
    go_enter Try.func92, Try.ntmps92
    go_wp2
    go_returns
    exact ⟨rfl, Below.refl _ _⟩
  · have g0 : s.toList.isEmpty = false := by
      rw [hl]
      cases hh : s.data.toList with
      | nil => exact absurd (by have := congrArg List.length hh; simpa using this) h0
      | cons a b => rfl
    have g0' : (!s.toList.isEmpty) = true := by rw [g0]; rfl
    by_cases h1 : s.size ≤ 64
    · obtain rfl : B = A := by rw [hB.out]; simp [show 1 ≤ s.size by omega, h1]
      have d0 : decide ((s.size : Int) ≤ 64) = true := decide_eq_true (by omega)
      clear hl h0 h1
      cases B
      all_goals
        go_enter Try.func92, Try.ntmps92
        go_wp2_with fail
        refine (HC.out _).mono ?_
        rintro e w1 ⟨rfl, gg⟩
        have X1 := Lib.hid gg; clear gg
        go_wp2
        go_returns
        exact ⟨rfl, X1.out⟩
    · obtain rfl : B = false := by rw [hB.out]; simp [h1]
      have d0 : decide ((s.size : Int) ≤ 64) = false := decide_eq_false (by omega)
      clear hl h0 h1
      go_enter Try.func92, Try.ntmps92
      go_wp2
      go_returns
      exact ⟨rfl, Below.refl _ _⟩
theorem isName_any (s : ByteArray) (w : World) (hs : s.size ≤ 9223372036854775807) :
    Calls Try.prog 92 #[.string s] w fun e w' => e = .returned (.bool (isNm s)) ∧ Below w.heap.size w w' :=
  isName_core s _ _ w hs rfl rfl fun W => allow_any s W
theorem ckk_core (nm : ByteArray) (ps dc E R : Int) (N P V : Bool) (a : Option Addr) (n cap : Nat) (w : World)
    (hE : Hid (R = if N = true then (if P = true then (if V = true then E else 2) else 2) else 4))
    (H1 : Hid (∀ W, Calls Try.prog 92 #[.string nm] W fun e w' => e = .returned (.bool N) ∧ Below W.heap.size W w'))
    (H2 : Hid (∀ W, Calls Try.prog 93 #[.int .i64 ps] W fun e w' => e = .returned (.bool P) ∧ w' = W))
    (H3 : Hid (∀ W, Calls Try.prog 94 #[.int .i64 dc] W fun e w' => e = .returned (.bool V) ∧ w' = W))
    (H4 : Hid (∀ W, Below w.heap.size w W → Calls Try.prog 36 #[.slice a n cap] W fun e w' => e = .returned (.int .i64 E) ∧ Below W.heap.size W w')) :
    Calls Try.prog 72 #[.agg #[.string nm, .int .i64 ps, .slice a n cap, .int .i64 dc]] w fun e w' => e = .returned (.int .i64 R) ∧ Below w.heap.size w w' := by
  have F0 := Lib.hid (Quad.new w (.string nm) (.int .i64 ps) (.slice a n cap) (.int .i64 dc) 24)
  cases N with
  | false =>
    obtain rfl : R = 4 := hE.out
    go_enter Try.func72, Try.ntmps72
    go_wp2_with fail
    refine (H1.out _).mono ?_
    rintro e w1 ⟨rfl, gg⟩
    have X1 := Lib.hid (bel_alloc gg); clear gg
    go_wp2
    go_returns
    exact ⟨rfl, X1.out⟩
  | true =>
    cases P with
    | false =>
      obtain rfl : R = 2 := hE.out
      go_enter Try.func72, Try.ntmps72
      go_wp2_with fail
      refine (H1.out _).mono ?_
      rintro e w1 ⟨rfl, gg⟩
      obtain ⟨c0, c1, c2, c3, _⟩ := F0.out.below gg
      have X1 := Lib.hid (bel_alloc gg); clear gg
      go_wp2_with fail
      refine (H2.out _).mono ?_
      rintro e w2 ⟨rfl, gg⟩
      subst gg
      go_wp2
      go_returns
      exact ⟨rfl, X1.out⟩
    | true =>
      cases V with
      | false =>
        obtain rfl : R = 2 := hE.out
        go_enter Try.func72, Try.ntmps72
        go_wp2_with fail
        refine (H1.out _).mono ?_
        rintro e w1 ⟨rfl, gg⟩
        obtain ⟨c0, c1, c2, c3, _⟩ := F0.out.below gg
        have X1 := Lib.hid (bel_alloc gg); clear gg
        go_wp2_with fail
        refine (H2.out _).mono ?_
        rintro e w2 ⟨rfl, gg⟩
        subst gg
        go_wp2_with fail
        refine (H3.out _).mono ?_
        rintro e w3 ⟨rfl, gg⟩
        subst gg
        go_wp2
        go_returns
        exact ⟨rfl, X1.out⟩
      | true =>
        obtain rfl : R = E := hE.out
        go_enter Try.func72, Try.ntmps72
        go_wp2_with fail
        refine (H1.out _).mono ?_
        rintro e w1 ⟨rfl, gg⟩
        obtain ⟨c0, c1, c2, c3, _⟩ := F0.out.below gg
        have X1 := Lib.hid (bel_alloc gg); clear gg
        go_wp2_with fail
        refine (H2.out _).mono ?_
        rintro e w2 ⟨rfl, gg⟩
        subst gg
        go_wp2_with fail
        refine (H3.out _).mono ?_
        rintro e w3 ⟨rfl, gg⟩
        subst gg
        go_wp2_with fail
        refine (H4.out _ X1.out).mono ?_
        rintro e w4 ⟨rfl, gg⟩
        have X2 := Lib.hid (bel_trans X1.out gg); clear gg
        go_wp2
        go_returns
        exact ⟨rfl, X2.out⟩
theorem ckk_any (v : Value) (c : Ck) (w : World) (hv : CkV w v c) :
    Calls Try.prog 72 #[v] w fun e w' => e = .returned (.int .i64 (ccE c)) ∧ Below w.heap.size w w' := by
  obtain ⟨a, cap, rfl, hp, hs, _⟩ := hv
  refine ckk_core c.nm c.ps c.dc (ckE c.pf) (ccE c) (isNm c.nm) (decide (c.ps = 1 ∨ c.ps = 2)) (decide (0 ≤ c.dc ∧ c.dc ≤ 1073741824)) a _ cap w ?_ (Lib.hid fun W => isName_any _ W hs) (Lib.hid fun W => isPos_any _ W) (Lib.hid fun W => isVol_any _ W) (Lib.hid fun W hW => ck_any _ _ W (hp.below hW))
  show _ = _
  unfold ccE
  simp only [decide_eq_true_eq]
  by_cases h1 : isNm c.nm = true
  · rw [if_pos h1, if_pos h1]
    by_cases h2 : c.ps = 1 ∨ c.ps = 2
    · rw [if_pos h2]
      by_cases h3 : 0 ≤ c.dc ∧ c.dc ≤ 1073741824
      · rw [if_pos h3, if_neg (by omega)]
      · rw [if_neg h3, if_pos (by omega)]
    · rw [if_neg h2, if_pos (by omega)]
  · rw [if_neg h1, if_neg h1]
end Go.Proofs.Ytgjdopjolokaiaa

/- Package profile: Length. -/
namespace Go.Proofs.Ytgjdopjolokaiaa
open Go.RowKit

theorem len_bad (v : Value) (E : Int) (w : World) (e1 : (E == 0) = false) (e2 : (E != 0) = true)
    (H1 : Hid (Calls Try.prog 36 #[v] w fun e w' => e = .returned (.int .i64 E) ∧ Below w.heap.size w w')) :
    Calls Try.prog 40 #[v] w fun e w' => e = .returned (.tuple #[.int .i64 0, .int .i64 E]) ∧ Below w.heap.size w w' := by
  go_enter Try.func40, Try.ntmps40
  go_wp2_with fail
  refine H1.out.mono ?_
  rintro e w1 ⟨rfl, gg⟩
  have X1 := Lib.hid gg; clear gg
  go_wp2
  go_returns
  exact ⟨rfl, X1.out⟩
theorem len_ok (v : Value) (X : Int) (w : World)
    (H1 : Hid (Calls Try.prog 36 #[v] w fun e w' => e = .returned (.int .i64 0) ∧ Below w.heap.size w w'))
    (H2 : Hid (∀ W, Below w.heap.size w W → Calls Try.prog 61 #[v] W fun e w' => e = .returned (.int .i64 X) ∧ w' = W)) :
    Calls Try.prog 40 #[v] w fun e w' => e = .returned (.tuple #[.int .i64 X, .int .i64 0]) ∧ Below w.heap.size w w' := by
  go_enter Try.func40, Try.ntmps40
  go_wp2_with fail
  refine H1.out.mono ?_
  rintro e w1 ⟨rfl, gg⟩
  have X1 := Lib.hid gg; clear gg
  go_wp2_with fail
  refine (H2.out _ X1.out).mono ?_
  rintro e w2 ⟨rfl, hw⟩
  subst hw
  go_wp2
  go_returns
  exact ⟨rfl, X1.out⟩
theorem len_any (v : Value) (l : List (Int × Int)) (w : World) (hv : Pts w v l) :
    Calls Try.prog 40 #[v] w fun e w' => e = .returned (.tuple #[.int .i64 (lgQ l), .int .i64 (ckE l)]) ∧ Below w.heap.size w w' := by
  have HC := Lib.hid (ck_any v l w hv)
  unfold lgQ
  by_cases h : ckE l = 0
  · rw [if_pos h, h]
    rw [h] at HC
    exact len_ok v _ w HC (Lib.hid fun W hW => end_of (hv.below hW) h)
  · rw [if_neg h]
    exact len_bad v _ w (by simpa using h) (by simpa using h) HC
end Go.Proofs.Ytgjdopjolokaiaa
