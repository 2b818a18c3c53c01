/- Plain facts on a line between two points: its heights rounded down and up. No program stands in this text. -/
import Derived.Lib.Hide
namespace Go.Proofs.Ytlofblpfohnooab

/-- a ratio, rounded up -/
def cdv (n d : Int) : Int := (n + d - 1) / d
theorem fl_iff (n d k : Int) (h : 0 < d) : k ≤ n / d ↔ k * d ≤ n := Int.le_ediv_iff_mul_le h
theorem cl_iff (n d k : Int) (h : 0 < d) : cdv n d ≤ k ↔ n ≤ k * d := by
  unfold cdv
  have e : (k + 1) * d = k * d + d := by rw [Int.add_mul]; omega
  constructor
  · intro hk
    have : (n + d - 1) / d < k + 1 := by omega
    have := Int.lt_mul_of_ediv_lt h this
    rw [e] at this
    omega
  · intro hk
    have : (n + d - 1) / d < k + 1 := Int.ediv_lt_of_lt_mul h (by rw [e]; omega)
    omega
/-- m / b ≤ n / c, as ratios -/
theorem fl_mono {m b n c : Int} (hb : 0 < b) (hc : 0 < c) (h : m * c ≤ n * b) : m / b ≤ n / c := by
  rw [fl_iff _ _ _ hc]
  have h1 := Int.ediv_mul_le m (show b ≠ 0 by omega)
  have h2 := Int.mul_le_mul_of_nonneg_right h1 (show 0 ≤ c by omega)
  have h3 : (m / b * c) * b ≤ n * b := by
    have : m / b * c * b = m / b * b * c := by rw [Int.mul_right_comm]
    omega
  exact Int.le_of_mul_le_mul_right h3 hb
theorem cl_ge (n d : Int) (h : 0 < d) : n ≤ cdv n d * d := (cl_iff n d _ h).1 (Int.le_refl _)
theorem cl_mono {m b n c : Int} (hb : 0 < b) (hc : 0 < c) (h : m * c ≤ n * b) : cdv m b ≤ cdv n c := by
  rw [cl_iff _ _ _ hb]
  have h1 := cl_ge n c hc
  have h2 := Int.mul_le_mul_of_nonneg_right h1 (show 0 ≤ b by omega)
  have h3 : m * c ≤ (cdv n c * b) * c := by
    have : cdv n c * b * c = cdv n c * c * b := by rw [Int.mul_right_comm]
    omega
  exact Int.le_of_mul_le_mul_right h3 hc
theorem fl_same {m b n c : Int} (hb : 0 < b) (hc : 0 < c) (h : m * c = n * b) : m / b = n / c :=
  Int.le_antisymm (fl_mono hb hc (by omega)) (fl_mono hc hb (by omega))
theorem cl_same {m b n c : Int} (hb : 0 < b) (hc : 0 < c) (h : m * c = n * b) : cdv m b = cdv n c :=
  Int.le_antisymm (cl_mono hb hc (by omega)) (cl_mono hc hb (by omega))
theorem fl_cl (n d : Int) (h : 0 < d) : n / d ≤ cdv n d ∧ cdv n d ≤ n / d + 1 := by
  constructor
  · have h1 := Int.ediv_mul_le n (show d ≠ 0 by omega)
    have h2 := cl_ge n d h
    exact Int.le_of_mul_le_mul_right (show n / d * d ≤ cdv n d * d by omega) h
  · rw [cl_iff _ _ _ h, Int.add_mul]
    have h1 := Int.emod_add_mul_ediv n d
    have h2 := Int.emod_lt_of_pos n h
    rw [Int.mul_comm] at h1
    omega
theorem fl_int (k d : Int) (h : 0 < d) : k * d / d = k := Int.mul_ediv_cancel k (by omega)
theorem cl_int (k d : Int) (h : 0 < d) : cdv (k * d) d = k := by
  have h1 := (cl_iff (k * d) d k h).2 (Int.le_refl _)
  have h2 := cl_ge (k * d) d h
  have := Int.le_of_mul_le_mul_right h2 h
  omega

/-! ### a line from (a, p) to (b, q) -/
def lnN (a p b q x : Int) : Int := p * (b - a) + (q - p) * (x - a)
theorem lnN_left (a p b q : Int) : lnN a p b q a = p * (b - a) := by unfold lnN; simp
theorem lnN_right (a p b q : Int) : lnN a p b q b = q * (b - a) := by unfold lnN; grind
theorem lnN_up {a p b q x y : Int} (h : p ≤ q) (hx : x ≤ y) : lnN a p b q x ≤ lnN a p b q y := by
  unfold lnN
  have := Int.mul_le_mul_of_nonneg_left (show x - a ≤ y - a by omega) (show 0 ≤ q - p by omega)
  omega
theorem lnN_down {a p b q x y : Int} (h : q ≤ p) (hx : x ≤ y) : lnN a p b q y ≤ lnN a p b q x := by
  unfold lnN
  have := Int.mul_le_mul_of_nonneg_left (show x - a ≤ y - a by omega) (show 0 ≤ p - q by omega)
  have e : ∀ z, (q - p) * z = -((p - q) * z) := fun z => by grind
  rw [e, e]
  omega
theorem ln_between {a p b q x : Int} (hab : a < b) (h1 : a ≤ x) (h2 : x ≤ b) : min p q ≤ lnN a p b q x / (b - a) ∧ cdv (lnN a p b q x) (b - a) ≤ max p q := by
  have hd : 0 < b - a := by omega
  rw [fl_iff _ _ _ hd, cl_iff _ _ _ hd]
  by_cases h : p ≤ q
  · have u1 := lnN_up (a := a) (b := b) h h1
    have u2 := lnN_up (a := a) (b := b) h h2
    rw [lnN_left] at u1
    rw [lnN_right] at u2
    rw [show min p q = p by omega, show max p q = q by omega]
    exact ⟨u1, u2⟩
  · have u1 := lnN_down (a := a) (b := b) (show q ≤ p by omega) h1
    have u2 := lnN_down (a := a) (b := b) (show q ≤ p by omega) h2
    rw [lnN_left] at u1
    rw [lnN_right] at u2
    rw [show min p q = q by omega, show max p q = p by omega]
    exact ⟨u2, u1⟩
/-- a point (m, s) on the line: both parts are the line -/
theorem ln_part1 {a p b q m s x : Int} (hab : a < b) (hm : a < m) (hs : s * (b - a) = lnN a p b q m) :
    lnN a p m s x / (m - a) = lnN a p b q x / (b - a) ∧ cdv (lnN a p m s x) (m - a) = cdv (lnN a p b q x) (b - a) := by
  have e : lnN a p m s x * (b - a) = lnN a p b q x * (m - a) := by unfold lnN at *; grind
  exact ⟨fl_same (by omega) (by omega) e, cl_same (by omega) (by omega) e⟩
theorem ln_part2 {a p b q m s x : Int} (hab : a < b) (hm : m < b) (hs : s * (b - a) = lnN a p b q m) :
    lnN m s b q x / (b - m) = lnN a p b q x / (b - a) ∧ cdv (lnN m s b q x) (b - m) = cdv (lnN a p b q x) (b - a) := by
  have e : lnN m s b q x * (b - a) = lnN a p b q x * (b - m) := by unfold lnN at *; grind
  exact ⟨fl_same (by omega) (by omega) e, cl_same (by omega) (by omega) e⟩
/-- the line from the other end -/
theorem ln_turn (a p b q x L : Int) : lnN (L - b) q (L - a) p (L - x) = lnN a p b q x ∧ (L - a) - (L - b) = b - a := by
  refine ⟨?_, by omega⟩
  unfold lnN; grind
/-- a line that lies at both ends of a part by t below another one lies so between them -/
theorem ln_below {a p b q c u d v x t : Int} (hab : a < b) (hcd : c < d) (h1 : c ≤ x) (h2 : x ≤ d) (hu : (u + t) * (b - a) ≤ lnN a p b q c) (hv : (v + t) * (b - a) ≤ lnN a p b q d) :
    lnN c u d v x / (d - c) ≤ lnN a p b q x / (b - a) - t ∧ cdv (lnN c u d v x) (d - c) ≤ cdv (lnN a p b q x) (b - a) - t := by
  have m1 := Int.mul_le_mul_of_nonneg_right hu (show 0 ≤ d - x by omega)
  have m2 := Int.mul_le_mul_of_nonneg_right hv (show 0 ≤ x - c by omega)
  have e1 : (lnN c u d v x + t * (d - c)) * (b - a) = (u + t) * (b - a) * (d - x) + (v + t) * (b - a) * (x - c) := by unfold lnN; grind
  have e2 : lnN a p b q x * (d - c) = lnN a p b q c * (d - x) + lnN a p b q d * (x - c) := by unfold lnN; grind
  have key : (lnN c u d v x + t * (d - c)) * (b - a) ≤ lnN a p b q x * (d - c) := by omega
  have hd : 0 < d - c := by omega
  have f1 := fl_mono hd (show 0 < b - a by omega) key
  have f2 := cl_mono hd (show 0 < b - a by omega) key
  have g1 : (lnN c u d v x + t * (d - c)) / (d - c) = lnN c u d v x / (d - c) + t := Int.add_mul_ediv_right _ _ (by omega)
  have g2 : cdv (lnN c u d v x + t * (d - c)) (d - c) = cdv (lnN c u d v x) (d - c) + t := by
    unfold cdv
    rw [show lnN c u d v x + t * (d - c) + (d - c) - 1 = lnN c u d v x + (d - c) - 1 + t * (d - c) by omega]
    exact Int.add_mul_ediv_right _ _ (by omega)
  omega
end Go.Proofs.Ytlofblpfohnooab
