/- Texts that the proofs of this seat share, one behind the other: RM, SM, SW, SG, SP, SQ, SX, Kit, Nums, SRefG, CB0, Two, PPL0, PM, LB0, PPM, LOI, PC0, PF, CF, LM, LRF, LN, LOP, PRA, PRB. -/
import Derived.Lib.Hide
import Derived.Test.YtgjdopjolokaiaaGreatProg
import Derived.Test.YtgjdopjolokaiaaGreatRows
import Derived.Test.YtgjdopjolokaiaaGreatShelf
import Derived.WalkKit
import Derived.Handy
import Derived.Lib.LaidTab
import Derived.Lib.LaidU8
import Derived.Lib.ItoaNum
import Derived.Outline
import Derived.Deep.DeepCutAuto
import Derived.Deep.CutBlock
import Derived.Deep.QuietTactic
import Derived.BigQuiet
import Derived.Lib.OwnBridge
import Derived.OwnWalk
import Derived.Shelf.SlicesQ.Reverse
import Derived.Ground.SlgnProg
import Derived.Laws.AppendOwn
import Derived.Deep.RegionLaw
import Derived.Maps.AppendAt

set_option linter.unusedVariables false
set_option linter.unusedSimpArgs false

/- Plain facts on square roots. No program stands in this text. -/
namespace Go.Proofs.YtgjdopjolokaiaaGreat

theorem sq_mono {a b : Int} (h0 : 0 ≤ a) (h : a ≤ b) : a * a ≤ b * b := Int.mul_le_mul h h h0 (Int.le_trans h0 h)
theorem sq_lt {a b : Int} (h0 : 0 ≤ b) (h : a * a < b * b) : a < b := by
  apply Classical.byContradiction
  intro hn
  have := sq_mono h0 (show b ≤ a by omega)
  omega
theorem sq_le {a b : Int} (h0 : 0 ≤ b) (h : a * a ≤ b * b) : a ≤ b := by
  apply Classical.byContradiction
  intro hn
  have h1 : b + 1 ≤ a := by omega
  have h2 := sq_mono (show 0 ≤ b + 1 by omega) h1
  have h3 : (b + 1) * (b + 1) = b * b + b + b + 1 := by rw [Int.add_mul, Int.mul_add]; omega
  omega
theorem rt_ex (n : Nat) : ∃ r : Nat, (r : Int) * r ≤ n ∧ (n : Int) < (r + 1) * (r + 1) := by
  induction n with
  | zero => exact ⟨0, by decide, by decide⟩
  | succ n ih =>
    obtain ⟨r, h1, h2⟩ := ih
    by_cases h : (n : Int) + 1 < (r + 1) * (r + 1)
    · exact ⟨r, by omega, by push_cast; exact h⟩
    · refine ⟨r + 1, by push_cast; omega, ?_⟩
      push_cast
      have h3 : ((r : Int) + 1 + 1) * (r + 1 + 1) = (r + 1) * (r + 1) + (r + 1) + (r + 1) + 1 := by
        rw [Int.add_mul ((r : Int) + 1), Int.mul_add ((r : Int) + 1)]; omega
      rw [h3]; omega
/-- the root of a number that is not negative, rounded down -/
noncomputable def rt (n : Int) : Int := ((rt_ex n.toNat).choose : Int)
theorem rt_spec (n : Int) (h : 0 ≤ n) : 0 ≤ rt n ∧ rt n * rt n ≤ n ∧ n < (rt n + 1) * (rt n + 1) := by
  have h2 : rt n * rt n ≤ (n.toNat : Int) ∧ (n.toNat : Int) < (rt n + 1) * (rt n + 1) := (rt_ex n.toNat).choose_spec
  have e : (n.toNat : Int) = n := Int.toNat_of_nonneg h
  exact ⟨by unfold rt; omega, Int.le_trans h2.1 (by omega), Int.lt_of_le_of_lt (by omega) h2.2⟩
theorem rt_of {n r : Int} (h0 : 0 ≤ r) (h1 : r * r ≤ n) (h2 : n < (r + 1) * (r + 1)) : rt n = r := by
  have hn : 0 ≤ n := Int.le_trans (Int.mul_nonneg h0 h0) h1
  obtain ⟨g0, g1, g2⟩ := rt_spec n hn
  have a := sq_lt (show 0 ≤ r + 1 by omega) (show rt n * rt n < (r + 1) * (r + 1) by omega)
  have b := sq_lt (show 0 ≤ rt n + 1 by omega) (show r * r < (rt n + 1) * (rt n + 1) by omega)
  omega
theorem rt_mono {m n : Int} (h0 : 0 ≤ m) (h : m ≤ n) : rt m ≤ rt n := by
  obtain ⟨a0, a1, a2⟩ := rt_spec m h0
  obtain ⟨b0, b1, b2⟩ := rt_spec n (by omega)
  have := sq_lt (show 0 ≤ rt n + 1 by omega) (show rt m * rt m < (rt n + 1) * (rt n + 1) by omega)
  omega
theorem rt_sq (k : Int) (h : 0 ≤ k) : rt (k * k) = k := by
  refine rt_of h (Int.le_refl _) ?_
  have : (k + 1) * (k + 1) = k * k + k + k + 1 := by rw [Int.add_mul, Int.mul_add]; omega
  omega
theorem rt_le {n b : Int} (h0 : 0 ≤ n) (hb : 0 ≤ b) (h : n ≤ b * b) : rt n ≤ b := by
  have := rt_mono h0 h
  rw [rt_sq b hb] at this
  exact this
/-- the root, rounded up -/
noncomputable def ce (n : Int) : Int := if rt n * rt n < n then rt n + 1 else rt n
theorem ce_spec (n : Int) (h : 0 ≤ n) : rt n ≤ ce n ∧ ce n ≤ rt n + 1 ∧ n ≤ ce n * ce n ∧ (ce n = rt n ↔ rt n * rt n = n) := by
  obtain ⟨a0, a1, a2⟩ := rt_spec n h
  unfold ce
  by_cases hl : rt n * rt n < n
  · rw [if_pos hl]; exact ⟨by omega, by omega, by omega, by omega, by omega⟩
  · rw [if_neg hl]; exact ⟨by omega, by omega, by omega, by omega, by omega⟩
theorem ce_le {n c : Int} (h : 0 ≤ n) (h0 : 0 ≤ c) (hc : n ≤ c * c) : ce n ≤ c := by
  obtain ⟨a0, a1, a2⟩ := rt_spec n h
  have h1 := rt_le h h0 hc
  unfold ce
  split
  · rename_i hl
    apply Classical.byContradiction
    intro hn
    have : rt n = c := by omega
    rw [this] at hl
    omega
  · exact h1
theorem ce_mono {m n : Int} (h0 : 0 ≤ m) (h : m ≤ n) : ce m ≤ ce n := by
  obtain ⟨b0, b1, b2, _⟩ := ce_spec n (by omega)
  have := (rt_spec n (by omega)).1
  exact ce_le h0 (by omega) (by omega)
theorem ce_sq (k : Int) (h : 0 ≤ k) : ce (k * k) = k := by
  unfold ce
  rw [rt_sq k h, if_neg (by omega)]
theorem rt_fold (n k : Int) (h : 0 ≤ n) (hk : 0 ≤ k) : k * rt n ≤ rt (n * k * k) ∧ rt (n * k * k) ≤ k * ce n := by
  obtain ⟨a0, a1, a2⟩ := rt_spec n h
  obtain ⟨b0, b1, b2, _⟩ := ce_spec n h
  have hkk : 0 ≤ k * k := Int.mul_nonneg hk hk
  have e : ∀ x : Int, k * x * (k * x) = x * x * (k * k) := fun x => by
    rw [Int.mul_comm k x, Int.mul_assoc, Int.mul_assoc, ← Int.mul_assoc k x k, Int.mul_comm k x, Int.mul_assoc]
  have hn : 0 ≤ n * k * k := Int.mul_nonneg (Int.mul_nonneg h hk) hk
  constructor
  · have h1 : k * rt n * (k * rt n) ≤ n * k * k := by
      rw [e, Int.mul_assoc n]
      exact Int.mul_le_mul_of_nonneg_right a1 hkk
    have := rt_mono (Int.mul_nonneg (Int.mul_nonneg hk a0) (Int.mul_nonneg hk a0)) h1
    rw [rt_sq _ (Int.mul_nonneg hk a0)] at this
    exact this
  · refine rt_le hn (Int.mul_nonneg hk (by omega)) ?_
    rw [e, Int.mul_assoc n]
    exact Int.mul_le_mul_of_nonneg_right b2 hkk

/-! ### half chords -/
noncomputable def hcL (r y : Int) : Int := if r < y ∨ y < -r then 0 else rt (r * r - y * y)
noncomputable def hcH (r y : Int) : Int := if r < y ∨ y < -r then 0 else ce (r * r - y * y)
theorem sq_abs {r y : Int} (h : ¬ (r < y ∨ y < -r)) : 0 ≤ r * r - y * y := by
  by_cases h0 : 0 ≤ y
  · have := sq_mono h0 (show y ≤ r by omega); omega
  · have := sq_mono (show 0 ≤ -y by omega) (show -y ≤ r by omega)
    rw [Int.neg_mul_neg] at this; omega
theorem hc_bd (r y : Int) (hr : 0 ≤ r) : 0 ≤ hcL r y ∧ hcL r y ≤ hcH r y ∧ hcH r y ≤ hcL r y + 1 ∧ hcH r y ≤ r := by
  unfold hcL hcH
  by_cases h : r < y ∨ y < -r
  · rw [if_pos h, if_pos h]; omega
  · rw [if_neg h, if_neg h]
    have h0 := sq_abs h
    obtain ⟨a0, a1, a2⟩ := rt_spec _ h0
    obtain ⟨b0, b1, b2, _⟩ := ce_spec _ h0
    refine ⟨a0, b0, b1, ce_le h0 hr ?_⟩
    have : 0 ≤ y * y := by
      by_cases hy : 0 ≤ y
      · exact Int.mul_nonneg hy hy
      · rw [← Int.neg_mul_neg]; exact Int.mul_nonneg (by omega) (by omega)
    omega
theorem hc_neg (r y : Int) : hcL r (-y) = hcL r y ∧ hcH r (-y) = hcH r y := by
  unfold hcL hcH
  rw [Int.neg_mul_neg]
  by_cases h : r < y ∨ y < -r
  · rw [if_pos h, if_pos (by omega), if_pos h, if_pos (by omega)]; exact ⟨rfl, rfl⟩
  · rw [if_neg h, if_neg (by omega), if_neg h, if_neg (by omega)]; exact ⟨rfl, rfl⟩
theorem hc_zero (r : Int) (h : 0 ≤ r) : hcL r 0 = r ∧ hcH r 0 = r := by
  unfold hcL hcH
  rw [if_neg (by omega), if_neg (by omega), Int.mul_zero, Int.sub_zero, rt_sq r h, ce_sq r h]
  exact ⟨rfl, rfl⟩
theorem hc_wider (r s y : Int) (h0 : 0 ≤ r) (h : r ≤ s) : hcL r y ≤ hcL s y ∧ hcH r y ≤ hcH s y := by
  have hs := hc_bd s y (by omega)
  by_cases g : r < y ∨ y < -r
  · have e1 : hcL r y = 0 := by unfold hcL; rw [if_pos g]
    have e2 : hcH r y = 0 := by unfold hcH; rw [if_pos g]
    rw [e1, e2]; omega
  · have g2 : ¬ (s < y ∨ y < -s) := by omega
    have q := sq_abs g
    have m := sq_mono h0 h
    unfold hcL hcH
    rw [if_neg g, if_neg g, if_neg g2, if_neg g2]
    exact ⟨rt_mono q (by omega), ce_mono q (by omega)⟩
theorem hc_further (r x y : Int) (hr : 0 ≤ r) (h0 : 0 ≤ x) (h : x ≤ y) : hcL r y ≤ hcL r x ∧ hcH r y ≤ hcH r x := by
  have hs := hc_bd r x hr
  by_cases g : r < y ∨ y < -r
  · have e1 : hcL r y = 0 := by unfold hcL; rw [if_pos g]
    have e2 : hcH r y = 0 := by unfold hcH; rw [if_pos g]
    rw [e1, e2]; omega
  · have g2 : ¬ (r < x ∨ x < -r) := by omega
    have q := sq_abs g
    have m := sq_mono h0 h
    unfold hcL hcH
    rw [if_neg g, if_neg g, if_neg g2, if_neg g2]
    exact ⟨rt_mono q (by omega), ce_mono q (by omega)⟩
theorem hc_abs (r y : Int) : hcL r y = hcL r (max y (-y)) ∧ hcH r y = hcH r (max y (-y)) := by
  by_cases h : 0 ≤ y
  · rw [show max y (-y) = y by omega]; exact ⟨rfl, rfl⟩
  · rw [show max y (-y) = -y by omega]
    have := hc_neg r y
    exact ⟨this.1.symm, this.2.symm⟩
theorem hc_circle (r y : Int) (h : ¬ (r < y ∨ y < -r)) : hcL r y * hcL r y + y * y ≤ r * r ∧ r * r ≤ hcH r y * hcH r y + y * y := by
  have q := sq_abs h
  obtain ⟨a0, a1, a2⟩ := rt_spec _ q
  obtain ⟨b0, b1, b2, _⟩ := ce_spec _ q
  unfold hcL hcH
  rw [if_neg h, if_neg h]
  omega
end Go.Proofs.YtgjdopjolokaiaaGreat

/- Plain facts on areas of circles between heights. No program stands in this text. -/
namespace Go.Proofs.YtgjdopjolokaiaaGreat

/-! ### half chords at a distance: more on them -/
theorem hc_le (r y : Int) (hr : 0 ≤ r) : 0 ≤ hcL r y ∧ hcL r y ≤ hcH r y ∧ hcH r y ≤ r := by
  have := hc_bd r y hr
  omega
/-- the nearer to the centre the greater -/
theorem hc_near (r y z : Int) (hr : 0 ≤ r) (h : max y (-y) ≤ max z (-z)) : hcL r z ≤ hcL r y ∧ hcH r z ≤ hcH r y := by
  rw [(hc_abs r y).1, (hc_abs r y).2, (hc_abs r z).1, (hc_abs r z).2]
  exact hc_further r _ _ hr (by omega) h

/-! ### a strip -/
/-- the bounds of the area of a circle in a strip -/
noncomputable def ofL (r c a b : Int) : Int := (b - a) * min (2 * hcL r (a - c)) (2 * hcL r (b - c))
noncomputable def ofH (r c a b : Int) : Int := (b - a) * (if a ≤ c ∧ c ≤ b then 2 * r else max (2 * hcH r (a - c)) (2 * hcH r (b - c)))
theorem wid_mono {w x y : Int} (hw : 0 ≤ w) (h : x ≤ y) : w * x ≤ w * y := Int.mul_le_mul_of_nonneg_left h hw
theorem of_bd (r c a b : Int) (hr : 0 ≤ r) (h : a ≤ b) : 0 ≤ ofL r c a b ∧ ofL r c a b ≤ ofH r c a b ∧ ofH r c a b ≤ (b - a) * (2 * r) := by
  have h1 := hc_le r (a - c) hr
  have h2 := hc_le r (b - c) hr
  unfold ofL ofH
  refine ⟨Int.mul_nonneg (by omega) (by omega), wid_mono (by omega) ?_, wid_mono (by omega) ?_⟩ <;> split <;> omega
/-- a greater radius -/
theorem of_wider (r s c a b : Int) (hr : 0 ≤ r) (hs : r ≤ s) (h : a ≤ b) : ofL r c a b ≤ ofL s c a b ∧ ofH r c a b ≤ ofH s c a b := by
  have h1 := hc_wider r s (a - c) hr hs
  have h2 := hc_wider r s (b - c) hr hs
  unfold ofL ofH
  refine ⟨wid_mono (by omega) (by omega), wid_mono (by omega) ?_⟩
  split <;> omega
/-- a strip that is cut in two -/
theorem of_cut (r c a m b : Int) (hr : 0 ≤ r) (h1 : a ≤ m) (h2 : m ≤ b) : ofL r c a b ≤ ofL r c a m + ofL r c m b ∧ ofH r c a m + ofH r c m b ≤ ofH r c a b := by
  have ha := hc_le r (a - c) hr
  have hb := hc_le r (b - c) hr
  have hm := hc_le r (m - c) hr
  -- the lesser chord: m is no further from the centre than one of both ends
  have hlow : min (2 * hcL r (a - c)) (2 * hcL r (b - c)) ≤ 2 * hcL r (m - c) := by
    by_cases h : max (m - c) (-(m - c)) ≤ max (a - c) (-(a - c))
    · have := (hc_near r (m - c) (a - c) hr h).1; omega
    · have := (hc_near r (m - c) (b - c) hr (by omega)).1; omega
  have e : ∀ x : Int, (b - a) * x = (m - a) * x + (b - m) * x := fun x => by rw [← Int.add_mul]; congr 1; omega
  constructor
  · unfold ofL
    rw [e]
    have q1 := wid_mono (w := m - a) (by omega) (show min (2 * hcL r (a - c)) (2 * hcL r (b - c)) ≤ min (2 * hcL r (a - c)) (2 * hcL r (m - c)) by omega)
    have q2 := wid_mono (w := b - m) (by omega) (show min (2 * hcL r (a - c)) (2 * hcL r (b - c)) ≤ min (2 * hcL r (m - c)) (2 * hcL r (b - c)) by omega)
    omega
  · unfold ofH
    rw [e]
    have q1 := wid_mono (w := m - a) (by omega) (show (if a ≤ c ∧ c ≤ m then 2 * r else max (2 * hcH r (a - c)) (2 * hcH r (m - c))) ≤ (if a ≤ c ∧ c ≤ b then 2 * r else max (2 * hcH r (a - c)) (2 * hcH r (b - c))) by
      by_cases hc : a ≤ c ∧ c ≤ b
      · rw [if_pos hc]; split <;> omega
      · rw [if_neg hc, if_neg (by omega)]
        by_cases h : max (a - c) (-(a - c)) ≤ max (m - c) (-(m - c))
        · have := (hc_near r (a - c) (m - c) hr h).2; omega
        · have := (hc_near r (b - c) (m - c) hr (by omega)).2; omega)
    have q2 := wid_mono (w := b - m) (by omega) (show (if m ≤ c ∧ c ≤ b then 2 * r else max (2 * hcH r (m - c)) (2 * hcH r (b - c))) ≤ (if a ≤ c ∧ c ≤ b then 2 * r else max (2 * hcH r (a - c)) (2 * hcH r (b - c))) by
      by_cases hc : a ≤ c ∧ c ≤ b
      · rw [if_pos hc]; split <;> omega
      · rw [if_neg hc, if_neg (by omega)]
        by_cases h : max (a - c) (-(a - c)) ≤ max (m - c) (-(m - c))
        · have := (hc_near r (a - c) (m - c) hr h).2; omega
        · have := (hc_near r (b - c) (m - c) hr (by omega)).2; omega)
    omega

/-! ### heights -/
/-- the first error of heights -/
def hB (n : Int) : Bool := decide (0 ≤ n) && decide (n ≤ 200000)
def ascB (l : List Int) : Bool := (List.range (l.length - 1)).all fun i => decide (l.getD i 0 ≤ l.getD (i + 1) 0)
def hcE (l : List Int) : Int := if l.length < 2 then 9 else if 65 < l.length then 8 else if l.all hB = false then 2 else if ascB l = false then 5 else 0
structure HR (l : List Int) : Prop where
  n0 : 2 ≤ l.length
  n1 : l.length ≤ 65
  bd : ∀ i, i < l.length → 0 ≤ l.getD i 0 ∧ l.getD i 0 ≤ 200000
  asc : ∀ i, i + 1 < l.length → l.getD i 0 ≤ l.getD (i + 1) 0
theorem ascB_iff (l : List Int) : ascB l = true ↔ ∀ i, i + 1 < l.length → l.getD i 0 ≤ l.getD (i + 1) 0 := by
  unfold ascB
  rw [List.all_eq_true]
  constructor
  · intro h i hi
    have := h i (List.mem_range.2 (by omega))
    simpa using this
  · intro h i hi
    have := h i (by have := List.mem_range.1 hi; omega)
    simpa using this
theorem allB_iff (l : List Int) : l.all hB = true ↔ ∀ i, i < l.length → 0 ≤ l.getD i 0 ∧ l.getD i 0 ≤ 200000 := by
  rw [List.all_eq_true]
  constructor
  · intro h i hi
    have := h (l.getD i 0) (by rw [List.getD_eq_getElem?_getD, List.getElem?_eq_getElem hi]; exact List.getElem_mem hi)
    simpa [hB] using this
  · intro h x hx
    obtain ⟨i, hi, rfl⟩ := List.getElem_of_mem hx
    have := h i hi
    rw [List.getD_eq_getElem?_getD, List.getElem?_eq_getElem hi] at this
    simpa [hB] using this
theorem hcE_iff (l : List Int) : hcE l = 0 ↔ HR l := by
  unfold hcE
  constructor
  · intro h
    split at h
    · omega
    · split at h
      · omega
      · split at h
        · omega
        · split at h
          · omega
          · rename_i g1 g2 g3 g4
            exact ⟨by omega, by omega, (allB_iff l).1 (by simpa using g3), (ascB_iff l).1 (by simpa using g4)⟩
  · intro h
    rw [if_neg (by have := h.n0; omega), if_neg (by have := h.n1; omega), if_neg (by rw [(allB_iff l).2 h.bd]; simp), if_neg (by rw [(ascB_iff l).2 h.asc]; simp)]

/-! ### sums over strips -/
noncomputable def prL (r c : Int) (l : List Int) : Nat → Int
  | 0 => 0
  | k + 1 => prL r c l k + ofL r c (l.getD k 0) (l.getD (k + 1) 0)
noncomputable def prH (r c : Int) (l : List Int) : Nat → Int
  | 0 => 0
  | k + 1 => prH r c l k + ofH r c (l.getD k 0) (l.getD (k + 1) 0)
theorem pr_bd {r c : Int} {l : List Int} (hr : 0 ≤ r) (h : HR l) (k : Nat) (hk : k < l.length) : 0 ≤ prL r c l k ∧ prL r c l k ≤ prH r c l k ∧ prH r c l k ≤ (l.getD k 0 - l.getD 0 0) * (2 * r) := by
  induction k with
  | zero => simp [prL, prH]
  | succ k ih =>
    obtain ⟨i1, i2, i3⟩ := ih (by omega)
    obtain ⟨b1, b2, b3⟩ := of_bd r c _ _ hr (h.asc k hk)
    have e : (l.getD (k + 1) 0 - l.getD 0 0) * (2 * r) = (l.getD k 0 - l.getD 0 0) * (2 * r) + (l.getD (k + 1) 0 - l.getD k 0) * (2 * r) := by
      rw [← Int.add_mul]; congr 1; omega
    rw [e]
    show 0 ≤ prL r c l k + _ ∧ prL r c l k + _ ≤ prH r c l k + _ ∧ prH r c l k + _ ≤ _
    omega
theorem pr_le {r c : Int} {l : List Int} (hr : 0 ≤ r) (hr2 : r ≤ 100000) (h : HR l) (k : Nat) (hk : k < l.length) : 0 ≤ prL r c l k ∧ prL r c l k ≤ prH r c l k ∧ prH r c l k ≤ 40000000000 := by
  obtain ⟨b1, b2, b3⟩ := pr_bd (c := c) hr h k hk
  have q1 := h.bd k hk
  have q2 := h.bd 0 (by omega)
  have q3 : (l.getD k 0 - l.getD 0 0) * (2 * r) ≤ 200000 * 200000 := by
    by_cases hn : 0 ≤ l.getD k 0 - l.getD 0 0
    · exact Int.mul_le_mul (by omega) (by omega) (by omega) (by omega)
    · have := Int.mul_le_mul_of_nonneg_right (show l.getD k 0 - l.getD 0 0 ≤ 0 by omega) (show 0 ≤ 2 * r by omega)
      omega
  omega
theorem pr_wider {r s c : Int} {l : List Int} (hr : 0 ≤ r) (hs : r ≤ s) (h : HR l) (k : Nat) (hk : k < l.length) : prL r c l k ≤ prL s c l k ∧ prH r c l k ≤ prH s c l k := by
  induction k with
  | zero => simp [prL, prH]
  | succ k ih =>
    have i := ih (by omega)
    have b := of_wider r s c _ _ hr hs (h.asc k hk)
    show prL r c l k + _ ≤ prL s c l k + _ ∧ prH r c l k + _ ≤ prH s c l k + _
    omega
/-- sums look at the first heights alone -/
theorem pr_same {r c : Int} {l m : List Int} (k : Nat) (h : ∀ i, i ≤ k → l.getD i 0 = m.getD i 0) : prL r c l k = prL r c m k ∧ prH r c l k = prH r c m k := by
  induction k with
  | zero => simp [prL, prH]
  | succ k ih =>
    have i := ih (fun i hi => h i (by omega))
    unfold prL prH
    rw [i.1, i.2, h k (by omega), h (k + 1) (by omega)]
    exact ⟨rfl, rfl⟩
/-- sums from a height on -/
theorem pr_from {r c : Int} {l m : List Int} (k : Nat) (n : Nat) (h : ∀ i, i ≤ n → m.getD i 0 = l.getD (k + i) 0) : prL r c l (k + n) = prL r c l k + prL r c m n ∧ prH r c l (k + n) = prH r c l k + prH r c m n := by
  induction n with
  | zero => simp [prL, prH]
  | succ n ih =>
    have i := ih (fun i hi => h i (by omega))
    show prL r c l (k + n) + ofL r c (l.getD (k + n) 0) (l.getD (k + n + 1) 0) = prL r c l k + (prL r c m n + ofL r c (m.getD n 0) (m.getD (n + 1) 0)) ∧ prH r c l (k + n) + ofH r c (l.getD (k + n) 0) (l.getD (k + n + 1) 0) = prH r c l k + (prH r c m n + ofH r c (m.getD n 0) (m.getD (n + 1) 0))
    rw [h n (by omega), h (n + 1) (by omega), i.1, i.2, show k + (n + 1) = k + n + 1 by omega]
    omega
/-- m has, between each two heights of l, one more -/
theorem pr_finer {r c : Int} {l m : List Int} (hr : 0 ≤ r) (h : HR l) (h1 : ∀ i, i < l.length → m.getD (2 * i) 0 = l.getD i 0) (h2 : ∀ i, i + 1 < l.length → l.getD i 0 ≤ m.getD (2 * i + 1) 0 ∧ m.getD (2 * i + 1) 0 ≤ l.getD (i + 1) 0) (k : Nat) (hk : k < l.length) :
    prL r c l k ≤ prL r c m (2 * k) ∧ prH r c m (2 * k) ≤ prH r c l k := by
  induction k with
  | zero => simp [prL, prH]
  | succ k ih =>
    have i := ih (by omega)
    have g := h2 k hk
    have b := of_cut r c _ _ _ hr g.1 g.2
    have e0 := h1 k (by omega)
    have e1 := h1 (k + 1) hk
    rw [show 2 * (k + 1) = 2 * k + 1 + 1 by omega] at e1 ⊢
    show prL r c l k + _ ≤ prL r c m (2 * k) + ofL r c (m.getD (2 * k) 0) (m.getD (2 * k + 1) 0) + ofL r c (m.getD (2 * k + 1) 0) (m.getD (2 * k + 1 + 1) 0) ∧ prH r c m (2 * k) + ofH r c (m.getD (2 * k) 0) (m.getD (2 * k + 1) 0) + ofH r c (m.getD (2 * k + 1) 0) (m.getD (2 * k + 1 + 1) 0) ≤ prH r c l k + _
    rw [e0, e1]
    omega
end Go.Proofs.YtgjdopjolokaiaaGreat

/- Plain facts: sums over strips, bounded by a potential. No program stands in this text. -/
namespace Go.Proofs.YtgjdopjolokaiaaGreat

/-- a potential on distances from the centre, for both sides -/
def od (F : Int → Int) (r y : Int) : Int := if 0 ≤ y then F (min y r) else -F (min (-y) r)
theorem od_pos (F : Int → Int) (r y : Int) (h : 0 ≤ y) : od F r y = F (min y r) := by unfold od; rw [if_pos h]
theorem od_neg (F : Int → Int) (r y : Int) (h : y < 0) : od F r y = -F (min (-y) r) := by unfold od; rw [if_neg (by omega)]

structure LowP (V r d : Int) (F : Int → Int) : Prop where
  step : ∀ a b, 0 ≤ a → a ≤ b → b ≤ r → d ≤ b - a → V * (2 * ((b - a) * hcL r b)) ≤ F b - F a
  cen : ∀ b, 0 ≤ b → b ≤ r → V * (2 * (b * hcL r b)) ≤ F b
  mono : ∀ a b, 0 ≤ a → a ≤ b → b ≤ r → F a ≤ F b

theorem hcL_out (r y : Int) (h : r < y) : hcL r y = 0 := by unfold hcL; rw [if_pos (.inl h)]
theorem hcH_out (r y : Int) (h : r < y) : hcH r y = 0 := by unfold hcH; rw [if_pos (.inl h)]
theorem mul_le {V x y : Int} (hV : 0 ≤ V) (h : x ≤ y) : V * x ≤ V * y := Int.mul_le_mul_of_nonneg_left h hV

/-- one side: the strip from a to b, b the further end -/
theorem low_side {V r d : Int} {F : Int → Int} (h : LowP V r d F) (hV : 0 ≤ V) (hr : 0 ≤ r) (a b m : Int) (a0 : 0 ≤ a) (ab : a ≤ b) (hd : d ≤ b - a) (hm : m ≤ 2 * hcL r b) :
    V * ((b - a) * m) ≤ F (min b r) - F (min a r) := by
  by_cases hb : b ≤ r
  · rw [show min b r = b by omega, show min a r = a by omega]
    have h1 := h.step a b a0 ab hb hd
    have h2 := wid_mono (w := b - a) (by omega) hm
    have h3 : (b - a) * (2 * hcL r b) = 2 * ((b - a) * hcL r b) := by rw [Int.mul_left_comm]
    have h4 := mul_le hV h2
    rw [h3] at h4
    omega
  · have h0 := hcL_out r b (by omega)
    have h1 := h.mono (min a r) (min b r) (by omega) (by omega) (by omega)
    have h2 := wid_mono (w := b - a) (by omega) (show m ≤ 0 by omega)
    have h4 := mul_le hV h2
    simp at h4
    omega
theorem low_cen {V r d : Int} {F : Int → Int} (h : LowP V r d F) (hV : 0 ≤ V) (hr : 0 ≤ r) (b m : Int) (b0 : 0 ≤ b) (hm : m ≤ 2 * hcL r b) :
    V * (b * m) ≤ F (min b r) := by
  by_cases hb : b ≤ r
  · rw [show min b r = b by omega]
    have h1 := h.cen b b0 hb
    have h2 := wid_mono (w := b) b0 hm
    have h3 : b * (2 * hcL r b) = 2 * (b * hcL r b) := by rw [Int.mul_left_comm]
    have h4 := mul_le hV h2
    rw [h3] at h4
    omega
  · have h0 := hcL_out r b (by omega)
    have h5 := h.cen 0 (by omega) hr
    have h1 := h.mono 0 (min b r) (by omega) (by omega) (by omega)
    have h2 := wid_mono (w := b) b0 (show m ≤ 0 by omega)
    have h4 := mul_le hV h2
    simp at h4 h5
    omega
theorem low_strip {V r d : Int} {F : Int → Int} (h : LowP V r d F) (hV : 0 ≤ V) (hr : 0 ≤ r) (c a b : Int) (ab : a ≤ b) (hd : d ≤ b - a) :
    V * ofL r c a b ≤ od F r (b - c) - od F r (a - c) := by
  unfold ofL
  generalize hm : min (2 * hcL r (a - c)) (2 * hcL r (b - c)) = m
  have ma : m ≤ 2 * hcL r (a - c) := by omega
  have mb : m ≤ 2 * hcL r (b - c) := by omega
  have ew : b - a = (b - c) - (a - c) := by omega
  rw [ew] at hd ⊢
  have hxy : a - c ≤ b - c := by omega
  generalize a - c = x at *
  generalize b - c = y at *
  by_cases hx : 0 ≤ x
  · rw [od_pos F r y (by omega), od_pos F r x hx]
    exact low_side h hV hr x y m hx hxy hd mb
  · rw [od_neg F r x (by omega)]
    have ma' : m ≤ 2 * hcL r (-x) := by rw [(hc_neg r x).1]; exact ma
    by_cases hy : 0 ≤ y
    · rw [od_pos F r y hy]
      have c1 := low_cen h hV hr y m hy mb
      have c2 := low_cen h hV hr (-x) m (by omega) ma'
      have e : V * ((y - x) * m) = V * (y * m) + V * (-x * m) := by
        rw [← Int.mul_add, ← Int.add_mul, Int.sub_eq_add_neg]
      omega
    · rw [od_neg F r y (by omega)]
      have c1 := low_side h hV hr (-y) (-x) m (by omega) (by omega) (by omega) ma'
      have e : -x - -y = y - x := by omega
      rw [e] at c1
      omega
theorem low_sum {V r d : Int} {F : Int → Int} (h : LowP V r d F) (hV : 0 ≤ V) (hr : 0 ≤ r) (c : Int) (l : List Int) (k : Nat) (hl : ∀ i, i < k → l.getD i 0 ≤ l.getD (i + 1) 0 ∧ d ≤ l.getD (i + 1) 0 - l.getD i 0) :
    V * prL r c l k ≤ od F r (l.getD k 0 - c) - od F r (l.getD 0 0 - c) := by
  induction k with
  | zero => simp [prL]
  | succ k ih =>
    have i := ih (fun i hi => hl i (by omega))
    have g := hl k (by omega)
    have s := low_strip h hV hr c _ _ g.1 g.2
    show V * (prL r c l k + _) ≤ _
    rw [Int.mul_add]
    omega

structure HighP (V r d : Int) (F : Int → Int) : Prop where
  step : ∀ a w, 0 ≤ a → a ≤ r → d ≤ w → 0 ≤ w → F (min (a + w) r) - F a ≤ V * (2 * (w * hcH r a))
  cen : ∀ b, 0 ≤ b → F (min b r) ≤ V * (2 * (b * r))
theorem hcH_zero (r : Int) (h : 0 ≤ r) : hcH r 0 = r := (hc_zero r h).2
theorem high_side {V r d : Int} {F : Int → Int} (h : HighP V r d F) (hV : 0 ≤ V) (hr : 0 ≤ r) (a b m : Int) (a0 : 0 ≤ a) (ab : a ≤ b) (hd : d ≤ b - a) (hm : 2 * hcH r a ≤ m) :
    F (min b r) - F (min a r) ≤ V * ((b - a) * m) := by
  have h2 := wid_mono (w := b - a) (by omega) hm
  have h3 : (b - a) * (2 * hcH r a) = 2 * ((b - a) * hcH r a) := by rw [Int.mul_left_comm]
  have h4 := mul_le hV h2
  rw [h3] at h4
  by_cases ha : a ≤ r
  · have h1 := h.step a (b - a) a0 ha hd (by omega)
    rw [show a + (b - a) = b by omega] at h1
    rw [show min a r = a by omega]
    omega
  · rw [show min a r = r by omega, show min b r = r by omega]
    have := hc_le r a hr
    have h5 : 0 ≤ V * (2 * ((b - a) * hcH r a)) := Int.mul_nonneg hV (Int.mul_nonneg (by omega) (Int.mul_nonneg (by omega) (by omega)))
    omega
theorem high_strip {V r d : Int} {F : Int → Int} (h : HighP V r d F) (hV : 0 ≤ V) (hr : 0 ≤ r) (c a b : Int) (ab : a ≤ b) (hd : d ≤ b - a) (h0 : F 0 = 0) :
    od F r (b - c) - od F r (a - c) ≤ V * ofH r c a b := by
  unfold ofH
  have hif : (if a ≤ c ∧ c ≤ b then 2 * r else max (2 * hcH r (a - c)) (2 * hcH r (b - c))) = (if a - c ≤ 0 ∧ 0 ≤ b - c then 2 * r else max (2 * hcH r (a - c)) (2 * hcH r (b - c))) := by
    by_cases g : a ≤ c ∧ c ≤ b
    · rw [if_pos g, if_pos (by omega)]
    · rw [if_neg g, if_neg (by omega)]
  rw [hif]
  have ew : b - a = (b - c) - (a - c) := by omega
  rw [ew] at hd ⊢
  have hxy : a - c ≤ b - c := by omega
  generalize a - c = x at *
  generalize b - c = y at *
  have g1 := hc_le r x hr
  have g2 := hc_le r y hr
  by_cases hx : 0 ≤ x
  · rw [od_pos F r y (by omega), od_pos F r x hx]
    refine high_side h hV hr x y _ hx hxy hd ?_
    split <;> omega
  · rw [od_neg F r x (by omega)]
    by_cases hy : 0 < y
    · rw [od_pos F r y (by omega), if_pos (by omega)]
      have c1 := h.cen y (by omega)
      have c2 := h.cen (-x) (by omega)
      have e : V * ((y - x) * (2 * r)) = V * (2 * (y * r)) + V * (2 * (-x * r)) := by
        rw [← Int.mul_add, ← Int.mul_add, ← Int.add_mul, Int.mul_left_comm (y - x) 2 r, Int.sub_eq_add_neg]
      omega
    · have c1 := high_side h hV hr (-y) (-x) (if x ≤ 0 ∧ 0 ≤ y then 2 * r else max (2 * hcH r x) (2 * hcH r y)) (by omega) (by omega) (by omega) (by rw [(hc_neg r y).2]; split <;> omega)
      have e : -x - -y = y - x := by omega
      rw [e] at c1
      by_cases hz : y = 0
      · subst hz
        rw [od_pos F r 0 (by omega), show min 0 r = 0 by omega, h0]
        rw [show min (-0) r = 0 by omega, h0] at c1
        omega
      · rw [od_neg F r y (by omega)]
        omega
theorem high_sum {V r d : Int} {F : Int → Int} (h : HighP V r d F) (hV : 0 ≤ V) (hr : 0 ≤ r) (h0 : F 0 = 0) (c : Int) (l : List Int) (k : Nat) (hl : ∀ i, i < k → l.getD i 0 ≤ l.getD (i + 1) 0 ∧ d ≤ l.getD (i + 1) 0 - l.getD i 0) :
    od F r (l.getD k 0 - c) - od F r (l.getD 0 0 - c) ≤ V * prH r c l k := by
  induction k with
  | zero => simp [prH]
  | succ k ih =>
    have i := ih (fun i hi => hl i (by omega))
    have g := hl k (by omega)
    have s := high_strip h hV hr c _ _ g.1 g.2 h0
    show _ ≤ V * (prH r c l k + _)
    rw [Int.mul_add]
    omega

/-! ### concave sequences -/
structure Conc (G : Int → Int) : Prop where
  dec : ∀ k, G (k + 1) ≤ G k
  conc : ∀ k, G k - G (k + 1) ≤ G (k + 1) - G (k + 1 + 1)
theorem Conc.slope {G : Int → Int} (h : Conc G) (a : Int) (n : Nat) : G a - G (a + 1) ≤ G (a + n) - G (a + n + 1) := by
  induction n with
  | zero => simp
  | succ n ih =>
    have := h.conc (a + n)
    have e : a + ((n + 1 : Nat) : Int) = a + n + 1 := by omega
    rw [e]; omega
theorem Conc.slope' {G : Int → Int} (h : Conc G) (a b : Int) (hab : a ≤ b) : G a - G (a + 1) ≤ G b - G (b + 1) := by
  have := h.slope a (b - a).toNat
  rw [show a + ((b - a).toNat : Int) = b by omega] at this
  exact this
theorem Conc.drop_le {G : Int → Int} (h : Conc G) (a : Int) (n : Nat) : G a - G (a + n) ≤ n * (G (a + n) - G (a + n + 1)) := by
  induction n with
  | zero => simp
  | succ n ih =>
    have s := h.conc (a + n)
    have e : a + ((n + 1 : Nat) : Int) = a + n + 1 := by omega
    rw [e]
    have m := Int.mul_le_mul_of_nonneg_left s (show (0 : Int) ≤ ((n + 1 : Nat) : Int) by omega)
    have e2 : ((n + 1 : Nat) : Int) * (G (a + n) - G (a + n + 1)) = n * (G (a + n) - G (a + n + 1)) + (G (a + n) - G (a + n + 1)) := by
      rw [Int.natCast_add, Int.add_mul]; simp
    omega
theorem Conc.drop_ge {G : Int → Int} (h : Conc G) (a : Int) (n : Nat) : n * (G a - G (a + 1)) ≤ G a - G (a + n) := by
  induction n with
  | zero => simp
  | succ n ih =>
    have s := h.slope a n
    have e : a + ((n + 1 : Nat) : Int) = a + n + 1 := by omega
    rw [e]
    have e2 : ((n + 1 : Nat) : Int) * (G a - G (a + 1)) = n * (G a - G (a + 1)) + (G a - G (a + 1)) := by
      rw [Int.natCast_add, Int.add_mul]; simp
    omega
theorem Conc.mono {G : Int → Int} (h : Conc G) (a b : Int) (hab : a ≤ b) : G b ≤ G a := by
  have key : ∀ n : Nat, G (a + n) ≤ G a := by
    intro n
    induction n with
    | zero => simp
    | succ n ih =>
      have := h.dec (a + n)
      have e : a + ((n + 1 : Nat) : Int) = a + n + 1 := by omega
      rw [e]; omega
  have := key (b - a).toNat
  rwa [show a + ((b - a).toNat : Int) = b by omega] at this
/-- twice the trapezoids up to n -/
def tz (G : Int → Int) : Nat → Int
  | 0 => 0
  | n + 1 => tz G n + (G n + G (n + 1))
theorem tz_step (G : Int → Int) (a n : Nat) : tz G (a + (n + 1)) = tz G (a + n) + (G (a + n) + G (a + n + 1)) := by
  show tz G (a + n + 1) = _
  show tz G (a + n) + (G ((a + n : Nat) : Int) + G (((a + n : Nat) : Int) + 1)) = _
  rw [Int.natCast_add]
theorem Conc.trap {G : Int → Int} (h : Conc G) (a n : Nat) : n * (G a + G (a + n)) ≤ tz G (a + n) - tz G a := by
  induction n with
  | zero => simp
  | succ n ih =>
    rw [tz_step]
    have d := h.drop_le a n
    have e : (a : Int) + ((n + 1 : Nat) : Int) = a + n + 1 := by omega
    rw [e]
    have e2 : ((n + 1 : Nat) : Int) * (G a + G (a + n + 1)) = n * (G a + G (a + n)) - n * (G (a + n) - G (a + n + 1)) + (G a + G (a + n + 1)) := by
      rw [Int.natCast_add, Int.add_mul, ← Int.mul_sub]
      simp only [Int.natCast_one, Int.one_mul]
      congr 2; omega
    rw [e2]
    omega
theorem Conc.tang {G : Int → Int} (h : Conc G) (a n : Nat) : tz G (a + n) - tz G a + n * n * (G a - G (a + 1)) ≤ 2 * (n * G a) := by
  induction n with
  | zero => simp
  | succ n ih =>
    rw [tz_step]
    have d1 := h.drop_ge a n
    have d2 := h.drop_ge a (n + 1)
    have ec : ((n + 1 : Nat) : Int) = (n : Int) + 1 := by omega
    rw [ec, ← Int.add_assoc] at d2
    rw [ec]
    generalize G a - G (a + 1) = S at *
    have e2 : ((n : Int) + 1) * ((n : Int) + 1) * S = n * n * S + (n * S + ((n : Int) + 1) * S) := by
      rw [Int.mul_add, Int.add_mul, Int.add_mul, Int.mul_one, Int.add_mul, Int.add_mul, Int.one_mul]; omega
    have e3 : 2 * (((n : Int) + 1) * G a) = 2 * (n * G a) + 2 * G a := by
      rw [Int.add_mul]; omega
    rw [e2, e3]
    omega
end Go.Proofs.YtgjdopjolokaiaaGreat

/- Plain facts: a polygon around a circle, and one in it. No program stands in this text. (Written by m/sg.py.) -/
namespace Go.Proofs.YtgjdopjolokaiaaGreat

theorem Conc.lin (C B : Int) (h : 0 ≤ B) : Conc (fun k => C - B * k) := by
  refine ⟨fun k => ?_, fun k => ?_⟩
  · show C - B * (k + 1) ≤ C - B * k
    rw [Int.mul_add]; omega
  · show C - B * k - (C - B * (k + 1)) ≤ C - B * (k + 1) - (C - B * (k + 1 + 1))
    rw [Int.mul_add, Int.mul_add, Int.mul_add]; omega
theorem Conc.min {F G : Int → Int} (h : Conc F) (g : Conc G) : Conc (fun k => Min.min (F k) (G k)) := by
  refine ⟨fun k => ?_, fun k => ?_⟩
  · show Min.min (F (k + 1)) (G (k + 1)) ≤ Min.min (F k) (G k)
    have := h.dec k; have := g.dec k; omega
  · show Min.min (F k) (G k) - Min.min (F (k + 1)) (G (k + 1)) ≤ Min.min (F (k + 1)) (G (k + 1)) - Min.min (F (k + 1 + 1)) (G (k + 1 + 1))
    have := h.conc k; have := g.conc k; omega

def gU (r k : Int) : Int := min (100000 * r - 0 * k) (min (102000 * r - 20000 * k) (min (111900 * r - 50000 * k) (min (134700 * r - 90000 * k) (min (189300 * r - 160000 * k) (364100 * r - 350000 * k)))))
theorem gU_conc (r : Int) : Conc (gU r) := ((Conc.lin (100000 * r) 0 (by omega)).min ((Conc.lin (102000 * r) 20000 (by omega)).min ((Conc.lin (111900 * r) 50000 (by omega)).min ((Conc.lin (134700 * r) 90000 (by omega)).min ((Conc.lin (189300 * r) 160000 (by omega)).min (Conc.lin (364100 * r) 350000 (by omega)))))))
theorem gU_le (r k : Int) : gU r k ≤ 100000 * r - 0 * k ∧ gU r k ≤ 102000 * r - 20000 * k ∧ gU r k ≤ 111900 * r - 50000 * k ∧ gU r k ≤ 134700 * r - 90000 * k ∧ gU r k ≤ 189300 * r - 160000 * k ∧ gU r k ≤ 364100 * r - 350000 * k := by
  unfold gU
  refine ⟨?_, ?_, ?_, ?_, ?_, ?_⟩ <;> omega
theorem gU_ge (r k X : Int) (h : X ≤ 100000 * r - 0 * k ∧ X ≤ 102000 * r - 20000 * k ∧ X ≤ 111900 * r - 50000 * k ∧ X ≤ 134700 * r - 90000 * k ∧ X ≤ 189300 * r - 160000 * k ∧ X ≤ 364100 * r - 350000 * k) : X ≤ gU r k := by
  unfold gU
  omega
def gL (r k : Int) : Int := min (100000 * r - 0 * k) (min (100000 * r - 11200 * k) (min (105016 * r - 34000 * k) (min (115810 * r - 59700 * k) (min (135430 * r - 92400 * k) (min (171355 * r - 140300 * k) (min (245827 * r - 225900 * k) (min (437727 * r - 427900 * k) (1410600 * r - 1410600 * k))))))))
theorem gL_conc (r : Int) : Conc (gL r) := ((Conc.lin (100000 * r) 0 (by omega)).min ((Conc.lin (100000 * r) 11200 (by omega)).min ((Conc.lin (105016 * r) 34000 (by omega)).min ((Conc.lin (115810 * r) 59700 (by omega)).min ((Conc.lin (135430 * r) 92400 (by omega)).min ((Conc.lin (171355 * r) 140300 (by omega)).min ((Conc.lin (245827 * r) 225900 (by omega)).min ((Conc.lin (437727 * r) 427900 (by omega)).min (Conc.lin (1410600 * r) 1410600 (by omega))))))))))
theorem gL_le (r k : Int) : gL r k ≤ 100000 * r - 0 * k ∧ gL r k ≤ 100000 * r - 11200 * k ∧ gL r k ≤ 105016 * r - 34000 * k ∧ gL r k ≤ 115810 * r - 59700 * k ∧ gL r k ≤ 135430 * r - 92400 * k ∧ gL r k ≤ 171355 * r - 140300 * k ∧ gL r k ≤ 245827 * r - 225900 * k ∧ gL r k ≤ 437727 * r - 427900 * k ∧ gL r k ≤ 1410600 * r - 1410600 * k := by
  unfold gL
  refine ⟨?_, ?_, ?_, ?_, ?_, ?_, ?_, ?_, ?_⟩ <;> omega
theorem gL_ge (r k X : Int) (h : X ≤ 100000 * r - 0 * k ∧ X ≤ 100000 * r - 11200 * k ∧ X ≤ 105016 * r - 34000 * k ∧ X ≤ 115810 * r - 59700 * k ∧ X ≤ 135430 * r - 92400 * k ∧ X ≤ 171355 * r - 140300 * k ∧ X ≤ 245827 * r - 225900 * k ∧ X ≤ 437727 * r - 427900 * k ∧ X ≤ 1410600 * r - 1410600 * k) : X ≤ gL r k := by
  unfold gL
  omega

/-- a tangent -/
theorem tangent (A B V x y r : Int) (h : V * V + B * B ≤ A * A) (hA : 0 ≤ A) (hr : 0 ≤ r) (hc : x * x + y * y ≤ r * r) : V * x ≤ A * r - B * y := by
  have h0 : 0 ≤ x * x + y * y := by
    have q : ∀ z : Int, 0 ≤ z * z := fun z => by
      by_cases hz : 0 ≤ z
      · exact Int.mul_nonneg hz hz
      · rw [← Int.neg_mul_neg]; exact Int.mul_nonneg (by omega) (by omega)
    have := q x; have := q y; omega
  have h2 : (V * V + B * B) * (x * x + y * y) ≤ (A * A) * (r * r) := Int.mul_le_mul h hc h0 (Int.mul_nonneg hA hA)
  have e1 : (V * x + B * y) * (V * x + B * y) + (V * y - B * x) * (V * y - B * x) = (V * V + B * B) * (x * x + y * y) := by grind
  have e2 : (A * A) * (r * r) = (A * r) * (A * r) := by grind
  have h3 : 0 ≤ (V * y - B * x) * (V * y - B * x) := by
    by_cases hz : 0 ≤ V * y - B * x
    · exact Int.mul_nonneg hz hz
    · rw [← Int.neg_mul_neg]; exact Int.mul_nonneg (by omega) (by omega)
  have := sq_le (a := V * x + B * y) (b := A * r) (Int.mul_nonneg hA hr) (by omega)
  omega
/-- a chord: between its ends it lies within the circle -/
theorem chord_sq (V Z1 Z2 c1 c2 u v : Int) (hu : 0 ≤ u) (hv : 0 ≤ v) (h1 : Z1 * Z1 + V * V * (c1 * c1) ≤ 10000 * (V * V)) (h2 : Z2 * Z2 + V * V * (c2 * c2) ≤ 10000 * (V * V)) (h12 : Z1 * Z2 + V * V * (c1 * c2) ≤ 10000 * (V * V)) :
    (Z1 * v + Z2 * u) * (Z1 * v + Z2 * u) + V * V * ((c1 * v + c2 * u) * (c1 * v + c2 * u)) ≤ V * V * ((100 * (u + v)) * (100 * (u + v))) := by
  have a1 := Int.mul_le_mul_of_nonneg_right h1 (Int.mul_nonneg hv hv)
  have a2 := Int.mul_le_mul_of_nonneg_right h2 (Int.mul_nonneg hu hu)
  have a3 := Int.mul_le_mul_of_nonneg_right h12 (Int.mul_nonneg hu hv)
  have e1 : (Z1 * v + Z2 * u) * (Z1 * v + Z2 * u) + V * V * ((c1 * v + c2 * u) * (c1 * v + c2 * u)) = (Z1 * Z1 + V * V * (c1 * c1)) * (v * v) + (Z2 * Z2 + V * V * (c2 * c2)) * (u * u) + 2 * ((Z1 * Z2 + V * V * (c1 * c2)) * (u * v)) := by grind
  have e2 : V * V * ((100 * (u + v)) * (100 * (u + v))) = 10000 * (V * V) * (v * v) + 10000 * (V * V) * (u * u) + 2 * (10000 * (V * V) * (u * v)) := by grind
  omega
theorem chord_in (V A B c1 c2 r y X : Int) (hV : 0 ≤ V) (hX : 0 ≤ X) (hc : c1 < c2) (hr : 0 ≤ r) (h1 : c1 * r ≤ 100 * y) (h2 : 100 * y ≤ c2 * r)
    (k1 : (100 * A - B * c1) * (100 * A - B * c1) + V * V * (c1 * c1) ≤ 10000 * (V * V)) (k2 : (100 * A - B * c2) * (100 * A - B * c2) + V * V * (c2 * c2) ≤ 10000 * (V * V)) (k12 : (100 * A - B * c1) * (100 * A - B * c2) + V * V * (c1 * c2) ≤ 10000 * (V * V))
    (hx : r * r ≤ X * X + y * y) : A * r - B * y ≤ V * X := by
  have q := chord_sq V _ _ c1 c2 (100 * y - c1 * r) (c2 * r - 100 * y) (by omega) (by omega) k1 k2 k12
  have e1 : (100 * A - B * c1) * (c2 * r - 100 * y) + (100 * A - B * c2) * (100 * y - c1 * r) = (100 * (c2 - c1)) * (A * r - B * y) := by grind
  have e2 : c1 * (c2 * r - 100 * y) + c2 * (100 * y - c1 * r) = (100 * (c2 - c1)) * y := by grind
  have e3 : 100 * (100 * y - c1 * r + (c2 * r - 100 * y)) = (100 * (c2 - c1)) * r := by grind
  rw [e1, e2, e3] at q
  generalize hD : 100 * (c2 - c1) = D at q
  have hD0 : 0 < D := by omega
  have q2 : (D * D) * ((A * r - B * y) * (A * r - B * y) + V * V * (y * y)) ≤ (D * D) * (V * V * (r * r)) := by
    have f1 : (D * D) * ((A * r - B * y) * (A * r - B * y) + V * V * (y * y)) = D * (A * r - B * y) * (D * (A * r - B * y)) + V * V * (D * y * (D * y)) := by grind
    have f2 : (D * D) * (V * V * (r * r)) = V * V * (D * r * (D * r)) := by grind
    rw [f1, f2]; exact q
  have q3 := Int.le_of_mul_le_mul_left q2 (Int.mul_pos hD0 hD0)
  have q4 : V * V * (r * r) ≤ V * V * (X * X + y * y) := Int.mul_le_mul_of_nonneg_left hx (Int.mul_nonneg hV hV)
  have f3 : V * V * (X * X + y * y) = (V * X) * (V * X) + V * V * (y * y) := by grind
  exact sq_le (Int.mul_nonneg hV hX) (by omega)

theorem hcL_up (r y : Int) (hr : 0 ≤ r) (h0 : 0 ≤ y) (h1 : y ≤ r) : 100000 * hcL r y ≤ gU r y := by
  have hc := (hc_circle r y (by omega)).1
  refine gU_ge r y _ ⟨tangent 100000 0 100000 _ y r (by omega) (by omega) hr hc, tangent 102000 20000 100000 _ y r (by omega) (by omega) hr hc, tangent 111900 50000 100000 _ y r (by omega) (by omega) hr hc, tangent 134700 90000 100000 _ y r (by omega) (by omega) hr hc, tangent 189300 160000 100000 _ y r (by omega) (by omega) hr hc, tangent 364100 350000 100000 _ y r (by omega) (by omega) hr hc⟩
theorem hcH_low (r y : Int) (hr : 0 ≤ r) (h0 : 0 ≤ y) (h1 : y ≤ r) : gL r y ≤ 100000 * hcH r y := by
  have hc := (hc_circle r y (by omega)).2
  have hX := (hc_le r y hr)
  obtain ⟨g0, g1, g2, g3, g4, g5, g6, g7, g8⟩ := gL_le r y
  by_cases b0 : 100 * y ≤ 22 * r
  · have := chord_in 100000 100000 11200 0 22 r y (hcH r y) (by omega) (by omega) (by omega) hr (by omega) b0 (by omega) (by omega) (by omega) hc; omega
  by_cases b1 : 100 * y ≤ 42 * r
  · have := chord_in 100000 105016 34000 22 42 r y (hcH r y) (by omega) (by omega) (by omega) hr (by omega) b1 (by omega) (by omega) (by omega) hc; omega
  by_cases b2 : 100 * y ≤ 60 * r
  · have := chord_in 100000 115810 59700 42 60 r y (hcH r y) (by omega) (by omega) (by omega) hr (by omega) b2 (by omega) (by omega) (by omega) hc; omega
  by_cases b3 : 100 * y ≤ 75 * r
  · have := chord_in 100000 135430 92400 60 75 r y (hcH r y) (by omega) (by omega) (by omega) hr (by omega) b3 (by omega) (by omega) (by omega) hc; omega
  by_cases b4 : 100 * y ≤ 87 * r
  · have := chord_in 100000 171355 140300 75 87 r y (hcH r y) (by omega) (by omega) (by omega) hr (by omega) b4 (by omega) (by omega) (by omega) hc; omega
  by_cases b5 : 100 * y ≤ 95 * r
  · have := chord_in 100000 245827 225900 87 95 r y (hcH r y) (by omega) (by omega) (by omega) hr (by omega) b5 (by omega) (by omega) (by omega) hc; omega
  by_cases b6 : 100 * y ≤ 99 * r
  · have := chord_in 100000 437727 427900 95 99 r y (hcH r y) (by omega) (by omega) (by omega) hr (by omega) b6 (by omega) (by omega) (by omega) hc; omega
  by_cases b7 : 100 * y ≤ 100 * r
  · have := chord_in 100000 1410600 1410600 99 100 r y (hcH r y) (by omega) (by omega) (by omega) hr (by omega) b7 (by omega) (by omega) (by omega) hc; omega
  omega
end Go.Proofs.YtgjdopjolokaiaaGreat

/- Plain facts: the potentials of both polygons. No program stands in this text. -/
namespace Go.Proofs.YtgjdopjolokaiaaGreat

theorem Conc.trapI {G : Int → Int} (h : Conc G) (a b : Int) (h0 : 0 ≤ a) (hab : a ≤ b) : (b - a) * (G a + G b) ≤ tz G b.toNat - tz G a.toNat := by
  obtain ⟨A, rfl⟩ := Int.eq_ofNat_of_zero_le h0
  obtain ⟨n, hn⟩ := Int.eq_ofNat_of_zero_le (show 0 ≤ b - A by omega)
  obtain rfl : b = ((A + n : Nat) : Int) := by omega
  have := h.trap A n
  rw [hn, Int.toNat_natCast, Int.toNat_natCast, Int.natCast_add]
  exact this
theorem Conc.tangI {G : Int → Int} (h : Conc G) (a b : Int) (h0 : 0 ≤ a) (hab : a ≤ b) : tz G b.toNat - tz G a.toNat + (b - a) * (b - a) * (G a - G (a + 1)) ≤ 2 * ((b - a) * G a) := by
  obtain ⟨A, rfl⟩ := Int.eq_ofNat_of_zero_le h0
  obtain ⟨n, hn⟩ := Int.eq_ofNat_of_zero_le (show 0 ≤ b - A by omega)
  obtain rfl : b = ((A + n : Nat) : Int) := by omega
  have := h.tang A n
  rw [hn, Int.toNat_natCast, Int.toNat_natCast]
  exact this
theorem Conc.dropI {G : Int → Int} (h : Conc G) (a b c : Int) (hab : a ≤ b) (hbc : b ≤ c) : G a - G b ≤ (b - a) * (G c - G (c + 1)) := by
  obtain ⟨n, hn⟩ := Int.eq_ofNat_of_zero_le (show 0 ≤ b - a by omega)
  have := h.drop_le a n
  have e : a + (n : Int) = b := by omega
  rw [e] at this
  have s := h.slope' b c hbc
  have := Int.mul_le_mul_of_nonneg_left s (show 0 ≤ b - a by omega)
  rw [← hn] at *
  omega

/-! ### below -/
def phiU (G : Int → Int) (d y : Int) : Int := tz G y.toNat + d * G y - d * G d
theorem lowP_of {V r d M : Int} {G : Int → Int} (h : Conc G) (hV : 0 ≤ V) (hr : 0 ≤ r) (hd : 0 ≤ d) (hx : ∀ y, 0 ≤ y → y ≤ r → V * hcL r y ≤ G y) (hM : ∀ k, G k - G (k + 1) ≤ M) (hMd : d * M ≤ 2 * G r) : LowP V r d (phiU G d) := by
  have pull : ∀ w y : Int, V * (2 * (w * hcL r y)) = 2 * (w * (V * hcL r y)) := fun w y => by grind
  have dist : ∀ w x y : Int, w * (x + y) = w * x + w * y := fun w x y => Int.mul_add w x y
  have mono1 : ∀ a, 0 ≤ a → a + 1 ≤ r → phiU G d a ≤ phiU G d (a + 1) := by
    intro a a0 ar
    unfold phiU
    have t : tz G (a + 1).toNat = tz G a.toNat + (G a + G (a + 1)) := by
      rw [show (a + 1).toNat = a.toNat + 1 by omega]
      show tz G a.toNat + (G (a.toNat : Int) + G ((a.toNat : Int) + 1)) = _
      rw [show (a.toNat : Int) = a by omega]
    have g1 := h.mono a r (by omega)
    have g2 := h.mono (a + 1) r ar
    have m := Int.mul_le_mul_of_nonneg_left (hM a) hd
    rw [Int.mul_sub] at m
    omega
  have z0 : 0 ≤ tz G 0 := by simp [tz]
  refine ⟨fun a b a0 ab br hw => ?_, fun b b0 br => ?_, fun a b a0 ab br => ?_⟩
  · rw [pull]
    have t := h.trapI a b a0 ab
    have x := wid_mono (w := b - a) (by omega) (hx b (by omega) br)
    have g := h.mono a b ab
    have s := Int.mul_le_mul_of_nonneg_right hw (show 0 ≤ G a - G b by omega)
    rw [Int.mul_sub, Int.mul_sub] at s
    rw [dist] at t
    unfold phiU
    omega
  · rw [pull]
    have t := h.trapI 0 b (by omega) b0
    rw [Int.sub_zero, dist] at t
    have x := wid_mono (w := b) b0 (hx b b0 br)
    have g := h.mono 0 b b0
    have s0 := wid_mono (w := b) b0 g
    simp only [Int.toNat_zero, tz, Int.sub_zero] at t
    unfold phiU
    by_cases hb : d ≤ b
    · have s := Int.mul_le_mul_of_nonneg_right hb (show 0 ≤ G 0 - G b by omega)
      rw [Int.mul_sub, Int.mul_sub] at s
      have g2 := Int.mul_le_mul_of_nonneg_left (h.mono 0 d hd) hd
      omega
    · have g2 := Int.mul_le_mul_of_nonneg_left (h.mono b d (by omega)) hd
      omega
  · obtain ⟨n, hn⟩ := Int.eq_ofNat_of_zero_le (show 0 ≤ b - a by omega)
    obtain rfl : b = a + n := by omega
    clear hn ab
    induction n with
    | zero => simp
    | succ n ih =>
      have := ih (by omega)
      have m := mono1 (a + n) (by omega) (by omega)
      rw [show a + ((n + 1 : Nat) : Int) = a + n + 1 by omega]
      omega

/-! ### above -/
def psiL (G : Int → Int) (d C y : Int) : Int := tz G y.toNat + d * C - d * G (y - 2 * d)
theorem high_step {r d : Int} {G : Int → Int} (h : Conc G) (hd : 1 ≤ d) (hz : 0 ≤ G r) : ∀ (n : Nat) (a w : Int), 0 ≤ a → a ≤ r → d ≤ w → (min (a + w) r - a).toNat ≤ n →
    tz G (min (a + w) r).toNat - tz G a.toNat + d * (G (a - 2 * d) - G (min (a + w) r - 2 * d)) ≤ 2 * (w * G a) := by
  intro n
  induction n with
  | zero =>
    intro a w a0 ar hw hn
    obtain he : min (a + w) r = a := by omega
    rw [he]
    have hg := h.mono a r ar
    have := Int.mul_nonneg (show 0 ≤ w by omega) (show 0 ≤ G a by omega)
    simp
    omega
  | succ n ih =>
    intro a w a0 ar hw hn
    have hg := h.mono a r ar
    have hga : 0 ≤ G a := by omega
    have hS : 0 ≤ G a - G (a + 1) := by have := h.dec a; omega
    by_cases hu : min (a + w) r - a ≤ 2 * d
    · generalize he : min (a + w) r = e at *
      have ae : a ≤ e := by omega
      have t := h.tangI a e a0 ae
      have q := h.dropI (a - 2 * d) (e - 2 * d) a (by omega) (by omega)
      rw [show e - 2 * d - (a - 2 * d) = e - a by omega] at q
      have q2 := Int.mul_le_mul_of_nonneg_left q (show 0 ≤ d by omega)
      generalize hS2 : G a - G (a + 1) = S at *
      by_cases hl : d ≤ e - a
      · have s := Int.mul_le_mul_of_nonneg_right (Int.mul_le_mul_of_nonneg_right hl (show 0 ≤ e - a by omega)) hS
        have w2 := Int.mul_le_mul_of_nonneg_right (show e - a ≤ w by omega) hga
        rw [Int.mul_assoc d] at s
        omega
      · have her : e = r := by omega
        have k1 := h.tangI a e a0 ae
        have ge : G e ≤ G a := h.mono a e ae
        have gn : (e - a) * S ≤ G a := by
          have t2 := h.drop_ge a (e - a).toNat
          rw [show ((e - a).toNat : Int) = e - a by omega, show a + (e - a) = e by omega] at t2
          have e0 : 0 ≤ G e := by rw [her]; exact hz
          rw [hS2] at t2
          omega
        have w2 := Int.mul_le_mul_of_nonneg_right hw hga
        have m1 := Int.mul_le_mul_of_nonneg_left gn (show 0 ≤ d - (e - a) by omega)
        have x1 : (d - (e - a)) * ((e - a) * S) = d * ((e - a) * S) - (e - a) * (e - a) * S := by grind
        have x2 : (d - (e - a)) * G a = d * G a - (e - a) * G a := by grind
        have y0 : 0 ≤ (d - (e - a)) * ((e - a) * S) := Int.mul_nonneg (by omega) (Int.mul_nonneg (by omega) hS)
        omega
    · have i := ih (a + d) (w - d) (by omega) (by omega) (by omega) (by omega)
      rw [show a + d + (w - d) = a + w by omega] at i
      have t := h.tangI a (a + d) a0 (by omega)
      have q := h.dropI (a - 2 * d) (a + d - 2 * d) a (by omega) (by omega)
      have q2 := Int.mul_le_mul_of_nonneg_left q (show 0 ≤ d by omega)
      rw [show a + d - a = d by omega] at t
      rw [show a + d - 2 * d - (a - 2 * d) = d by omega] at q2
      have e1 : d * d * (G a - G (a + 1)) = d * (d * (G a - G (a + 1))) := Int.mul_assoc _ _ _
      have g2 := h.mono a (a + d) (by omega)
      have w2 := Int.mul_le_mul_of_nonneg_left g2 (show 0 ≤ w - d by omega)
      have x1 : d * (G (a - 2 * d) - G (min (a + w) r - 2 * d)) = d * (G (a - 2 * d) - G (a + d - 2 * d)) + d * (G (a + d - 2 * d) - G (min (a + w) r - 2 * d)) := by
        rw [← Int.mul_add]; congr 1; omega
      have x2 : (w - d) * G a = w * G a - d * G a := Int.sub_mul _ _ _
      omega
theorem highP_of {V r d C : Int} {G : Int → Int} (h : Conc G) (hV : 0 ≤ V) (hr : 0 ≤ r) (hd : 1 ≤ d) (hz : 0 ≤ G r) (hC : C = V * r) (hflat : ∀ k, k ≤ 0 → G k = C) (hx : ∀ y, 0 ≤ y → y ≤ r → G y ≤ V * hcH r y) : HighP V r d (psiL G d C) := by
  have pull : ∀ w y : Int, V * (2 * (w * y)) = 2 * (w * (V * y)) := fun w y => by grind
  have st : ∀ a w, 0 ≤ a → a ≤ r → d ≤ w → psiL G d C (min (a + w) r) - psiL G d C a ≤ 2 * (w * G a) := by
    intro a w a0 ar hw
    have := high_step h hd hz _ a w a0 ar hw (Nat.le_refl _)
    rw [Int.mul_sub] at this
    unfold psiL
    omega
  have p0 : psiL G d C 0 = 0 := by
    unfold psiL
    rw [hflat _ (by omega)]
    simp [tz]
  refine ⟨fun a w a0 ar hw w0 => ?_, fun b b0 => ?_⟩
  · rw [pull]
    have := st a w a0 ar hw
    have := wid_mono w0 (hx a a0 ar)
    omega
  · rw [pull, ← hC]
    by_cases hb : d ≤ b
    · have := st 0 b (by omega) hr hb
      rw [p0, hflat 0 (by omega), Int.zero_add] at this
      omega
    · have hf := hflat (min b r - 2 * d) (by omega)
      unfold psiL
      rw [hf]
      have t := h.tangI 0 (min b r) (by omega) (by omega)
      have hS : 0 ≤ G 0 - G (0 + 1) := by have := h.dec 0; omega
      have hC0 : 0 ≤ C := by rw [hC]; exact Int.mul_nonneg hV hr
      have m2 := Int.mul_le_mul_of_nonneg_right (show min b r ≤ b by omega) hC0
      rw [hflat 0 (by omega)] at t hS
      simp only [Int.toNat_zero, tz, Int.sub_zero] at t
      have m1 := Int.mul_nonneg (Int.mul_nonneg (show 0 ≤ min b r by omega) (show 0 ≤ min b r by omega)) hS
      omega
end Go.Proofs.YtgjdopjolokaiaaGreat

/- Plain facts: what the potentials of both polygons come to. No program stands in this text. (Written by m/sq.py.) -/
namespace Go.Proofs.YtgjdopjolokaiaaGreat

/-- twice the area under a line up to k -/
def ln (A B r k : Int) : Int := 2 * A * (r * k) - B * (k * k)
theorem ln_step (A B r k : Int) : ln A B r (k + 1) - ln A B r k = (A * r - B * k) + (A * r - B * (k + 1)) := by
  unfold ln; grind
theorem tz_up {G : Int → Int} {A B r : Int} (h : ∀ k, G k ≤ A * r - B * k) (a b : Nat) (hab : a ≤ b) : tz G b - tz G a ≤ ln A B r b - ln A B r a := by
  obtain ⟨n, rfl⟩ : ∃ n, b = a + n := ⟨b - a, by omega⟩
  clear hab
  induction n with
  | zero => simp
  | succ n ih =>
    rw [tz_step, show ((a + (n + 1) : Nat) : Int) = ((a + n : Nat) : Int) + 1 by omega]
    have s := ln_step A B r ((a + n : Nat) : Int)
    have h1 := h ((a + n : Nat) : Int)
    have h2 := h (((a + n : Nat) : Int) + 1)
    rw [Int.natCast_add] at *
    omega
theorem tz_low {G : Int → Int} {A B r : Int} (a b : Nat) (hab : a ≤ b) (h : ∀ k : Int, a ≤ k → k ≤ b → A * r - B * k ≤ G k) : ln A B r b - ln A B r a ≤ tz G b - tz G a := by
  obtain ⟨n, rfl⟩ : ∃ n, b = a + n := ⟨b - a, by omega⟩
  clear hab
  induction n with
  | zero => simp
  | succ n ih =>
    have i := ih (fun k h1 h2 => h k h1 (by omega))
    rw [tz_step, show ((a + (n + 1) : Nat) : Int) = ((a + n : Nat) : Int) + 1 by omega]
    have s := ln_step A B r ((a + n : Nat) : Int)
    have h1 := h ((a + n : Nat) : Int) (by omega) (by omega)
    have h2 := h (((a + n : Nat) : Int) + 1) (by omega) (by omega)
    rw [Int.natCast_add] at *
    omega
/-- the same, where the last one may miss by e -/
theorem tz_low1 {G : Int → Int} {A B r e : Int} (a b : Nat) (hab : a ≤ b) (he : 0 ≤ e) (h : ∀ k : Int, a ≤ k → k < b → A * r - B * k ≤ G k) (h1 : A * r - B * b ≤ G b + e) : ln A B r b - ln A B r a - e ≤ tz G b - tz G a := by
  by_cases hq : a = b
  · subst hq; omega
  · obtain ⟨c, rfl⟩ : ∃ c, b = c + 1 := ⟨b - 1, by omega⟩
    have i := tz_low (G := G) (A := A) (B := B) (r := r) a c (by omega) (fun k g1 g2 => h k g1 (by omega))
    have s := ln_step A B r (c : Int)
    have h2 := h c (by omega) (by omega)
    have t : tz G (c + 1) = tz G c + (G c + G ((c : Int) + 1)) := rfl
    rw [t]
    rw [Int.natCast_add, Int.natCast_one] at *
    omega
theorem near_down (c r k : Int) (h1 : 100 * k ≤ c * r) (h2 : c * r < 100 * k + 100) : 10000 * (k * k) - 200 * c * (r * k) + c * c * (r * r) ≤ 10000 := by
  have e : 10000 * (k * k) - 200 * c * (r * k) + c * c * (r * r) = (c * r - 100 * k) * (c * r - 100 * k) := by grind
  rw [e]
  have := sq_mono (a := c * r - 100 * k) (b := 100) (by omega) (by omega)
  omega
theorem near_any (c r k : Int) : 0 ≤ 10000 * (k * k) - 200 * c * (r * k) + c * c * (r * r) := by
  have e : 10000 * (k * k) - 200 * c * (r * k) + c * c * (r * r) = (c * r - 100 * k) * (c * r - 100 * k) := by grind
  rw [e]
  by_cases hz : 0 ≤ c * r - 100 * k
  · exact Int.mul_nonneg hz hz
  · rw [← Int.neg_mul_neg]; exact Int.mul_nonneg (by omega) (by omega)

theorem tzU (R : Nat) (h : 96 ≤ R) : tz (gU R) R ≤ 158334 * ((R : Int) * R) + 350000 := by
  have L := fun k => gU_le R k
  have q0 : 0 ≤ (R : Int) * R := Int.mul_nonneg (by omega) (by omega)
  obtain ⟨k0, e0⟩ : ∃ k : Nat, k = 10 * R / 100 := ⟨_, rfl⟩
  have n0 := near_down 10 R k0 (by omega) (by omega)
  obtain ⟨k1, e1⟩ : ∃ k : Nat, k = 33 * R / 100 := ⟨_, rfl⟩
  have n1 := near_down 33 R k1 (by omega) (by omega)
  obtain ⟨k2, e2⟩ : ∃ k : Nat, k = 57 * R / 100 := ⟨_, rfl⟩
  have n2 := near_down 57 R k2 (by omega) (by omega)
  obtain ⟨k3, e3⟩ : ∃ k : Nat, k = 78 * R / 100 := ⟨_, rfl⟩
  have n3 := near_down 78 R k3 (by omega) (by omega)
  obtain ⟨k4, e4⟩ : ∃ k : Nat, k = 92 * R / 100 := ⟨_, rfl⟩
  have n4 := near_down 92 R k4 (by omega) (by omega)
  have t0 := tz_up (G := gU R) (A := 100000) (B := 0) (r := R) (fun k => (L k).1) 0 k0 (by omega)
  have t1 := tz_up (G := gU R) (A := 102000) (B := 20000) (r := R) (fun k => (L k).2.1) k0 k1 (by omega)
  have t2 := tz_up (G := gU R) (A := 111900) (B := 50000) (r := R) (fun k => (L k).2.2.1) k1 k2 (by omega)
  have t3 := tz_up (G := gU R) (A := 134700) (B := 90000) (r := R) (fun k => (L k).2.2.2.1) k2 k3 (by omega)
  have t4 := tz_up (G := gU R) (A := 189300) (B := 160000) (r := R) (fun k => (L k).2.2.2.2.1) k3 k4 (by omega)
  have t5 := tz_up (G := gU R) (A := 364100) (B := 350000) (r := R) (fun k => (L k).2.2.2.2.2) k4 R (by omega)
  simp only [ln] at t0 t1 t2 t3 t4 t5
  simp only [tz, Int.natCast_zero, Int.mul_zero, Int.sub_zero] at t0
  omega
theorem phi_total (R : Nat) (h : 96 ≤ R) : 226 * phiU (gU R) ((R : Int) / 32) R ≤ 35500000 * ((R : Int) * R) := by
  have t := tzU R h
  generalize hd : (R : Int) / 32 = d
  have d1 : 32 * d ≤ R := by omega
  have d2 : (R : Int) ≤ 32 * d + 31 := by omega
  have u1 : gU R R ≤ 14100 * R := by have := (gU_le R R).2.2.2.2.2; omega
  have u2 : 100000 * (R : Int) ≤ gU R d := gU_ge R d _ ⟨by omega, by omega, by omega, by omega, by omega, by omega⟩
  have m1 := Int.mul_le_mul_of_nonneg_left u1 (show 0 ≤ d by omega)
  have m2 := Int.mul_le_mul_of_nonneg_left u2 (show 0 ≤ d by omega)
  rw [Int.mul_left_comm] at m1 m2
  have m3 := Int.mul_le_mul_of_nonneg_right d2 (show (0 : Int) ≤ R by omega)
  rw [Int.add_mul, Int.mul_assoc] at m3
  have m4 := Int.mul_le_mul_of_nonneg_right (show (96 : Int) ≤ R by omega) (show (0 : Int) ≤ R by omega)
  unfold phiU
  rw [Int.toNat_natCast]
  generalize tz (gU R) R = T at *
  generalize d * gU R R = X at *
  generalize d * gU R d = Y at *
  generalize d * (R : Int) = Z at *
  generalize (R : Int) * R = Q at *
  omega

theorem gL_line (r k : Int) (hr : 96 ≤ r) : (0 * r ≤ 100 * k → 100 * k ≤ 22 * r → 100000 * r - 11200 * k ≤ gL r k) ∧ (22 * r ≤ 100 * k → 100 * k ≤ 42 * r → 105016 * r - 34000 * k ≤ gL r k) ∧ (42 * r ≤ 100 * k → 100 * k ≤ 60 * r → 115810 * r - 59700 * k ≤ gL r k) ∧ (60 * r ≤ 100 * k → 100 * k ≤ 75 * r → 135430 * r - 92400 * k ≤ gL r k) ∧ (75 * r ≤ 100 * k → 100 * k ≤ 87 * r → 171355 * r - 140300 * k ≤ gL r k) ∧ (87 * r ≤ 100 * k → 100 * k ≤ 95 * r → 245827 * r - 225900 * k ≤ gL r k) ∧ (95 * r ≤ 100 * k → 100 * k ≤ 99 * r → 437727 * r - 427900 * k ≤ gL r k) ∧ (99 * r ≤ 100 * k → 100 * k ≤ 100 * r → 1410600 * r - 1410600 * k ≤ gL r k) := by
  refine ⟨?_, ?_, ?_, ?_, ?_, ?_, ?_, ?_⟩ <;> intro h1 h2 <;> exact gL_ge r k _ ⟨by omega, by omega, by omega, by omega, by omega, by omega, by omega, by omega, by omega⟩
theorem gL_miss (r k : Int) (hr : 96 ≤ r) : (22 * r ≤ 100 * k → 100 * k < 22 * r + 100 → 100000 * r - 11200 * k ≤ gL r k + 22800) ∧ (42 * r ≤ 100 * k → 100 * k < 42 * r + 100 → 105016 * r - 34000 * k ≤ gL r k + 25700) ∧ (60 * r ≤ 100 * k → 100 * k < 60 * r + 100 → 115810 * r - 59700 * k ≤ gL r k + 32700) ∧ (75 * r ≤ 100 * k → 100 * k < 75 * r + 100 → 135430 * r - 92400 * k ≤ gL r k + 47900) ∧ (87 * r ≤ 100 * k → 100 * k < 87 * r + 100 → 171355 * r - 140300 * k ≤ gL r k + 85600) ∧ (95 * r ≤ 100 * k → 100 * k < 95 * r + 100 → 245827 * r - 225900 * k ≤ gL r k + 202000) ∧ (99 * r ≤ 100 * k → 100 * k < 99 * r + 100 → 437727 * r - 427900 * k ≤ gL r k + 982700) := by
  refine ⟨?_, ?_, ?_, ?_, ?_, ?_, ?_⟩ <;> intro h1 h2 <;> (refine Int.le_add_of_sub_right_le (gL_ge r k _ ⟨by omega, by omega, by omega, by omega, by omega, by omega, by omega, by omega, by omega⟩))
theorem tzL (R : Nat) (h : 96 ≤ R) : 156006 * ((R : Int) * R) - 1410600 ≤ tz (gL R) R := by
  have L := fun k => gL_line R k (by omega)
  have q0 : 0 ≤ (R : Int) * R := Int.mul_nonneg (by omega) (by omega)
  have M := fun k => gL_miss R k (by omega)
  obtain ⟨k0, e0⟩ : ∃ k : Nat, k = (22 * R + 99) / 100 := ⟨_, rfl⟩
  have n0 := near_any 22 R k0
  obtain ⟨k1, e1⟩ : ∃ k : Nat, k = (42 * R + 99) / 100 := ⟨_, rfl⟩
  have n1 := near_any 42 R k1
  obtain ⟨k2, e2⟩ : ∃ k : Nat, k = (60 * R + 99) / 100 := ⟨_, rfl⟩
  have n2 := near_any 60 R k2
  obtain ⟨k3, e3⟩ : ∃ k : Nat, k = (75 * R + 99) / 100 := ⟨_, rfl⟩
  have n3 := near_any 75 R k3
  obtain ⟨k4, e4⟩ : ∃ k : Nat, k = (87 * R + 99) / 100 := ⟨_, rfl⟩
  have n4 := near_any 87 R k4
  obtain ⟨k5, e5⟩ : ∃ k : Nat, k = (95 * R + 99) / 100 := ⟨_, rfl⟩
  have n5 := near_any 95 R k5
  obtain ⟨k6, e6⟩ : ∃ k : Nat, k = (99 * R + 99) / 100 := ⟨_, rfl⟩
  have n6 := near_any 99 R k6
  have t0 := tz_low1 (G := gL R) (A := 100000) (B := 11200) (r := R) (e := 22800) 0 k0 (by omega) (by omega) (fun k g1 g2 => (L k).1 (by omega) (by omega)) ((M k0).1 (by omega) (by omega))
  have t1 := tz_low1 (G := gL R) (A := 105016) (B := 34000) (r := R) (e := 25700) k0 k1 (by omega) (by omega) (fun k g1 g2 => (L k).2.1 (by omega) (by omega)) ((M k1).2.1 (by omega) (by omega))
  have t2 := tz_low1 (G := gL R) (A := 115810) (B := 59700) (r := R) (e := 32700) k1 k2 (by omega) (by omega) (fun k g1 g2 => (L k).2.2.1 (by omega) (by omega)) ((M k2).2.2.1 (by omega) (by omega))
  have t3 := tz_low1 (G := gL R) (A := 135430) (B := 92400) (r := R) (e := 47900) k2 k3 (by omega) (by omega) (fun k g1 g2 => (L k).2.2.2.1 (by omega) (by omega)) ((M k3).2.2.2.1 (by omega) (by omega))
  have t4 := tz_low1 (G := gL R) (A := 171355) (B := 140300) (r := R) (e := 85600) k3 k4 (by omega) (by omega) (fun k g1 g2 => (L k).2.2.2.2.1 (by omega) (by omega)) ((M k4).2.2.2.2.1 (by omega) (by omega))
  have t5 := tz_low1 (G := gL R) (A := 245827) (B := 225900) (r := R) (e := 202000) k4 k5 (by omega) (by omega) (fun k g1 g2 => (L k).2.2.2.2.2.1 (by omega) (by omega)) ((M k5).2.2.2.2.2.1 (by omega) (by omega))
  have t6 := tz_low1 (G := gL R) (A := 437727) (B := 427900) (r := R) (e := 982700) k5 k6 (by omega) (by omega) (fun k g1 g2 => (L k).2.2.2.2.2.2.1 (by omega) (by omega)) ((M k6).2.2.2.2.2.2 (by omega) (by omega))
  have t7 := tz_low (G := gL R) (A := 1410600) (B := 1410600) (r := R) k6 R (by omega) (fun k g1 g2 => (L k).2.2.2.2.2.2.2 (by omega) (by omega))
  simp only [ln] at t0 t1 t2 t3 t4 t5 t6 t7
  simp only [tz, Int.natCast_zero, Int.mul_zero, Int.sub_zero] at t0
  omega
theorem psi_total (R : Nat) (h : 96 ≤ R) : 33300000 * ((R : Int) * R) ≤ 212 * psiL (gL R) ((R : Int) / 32) (100000 * R) R := by
  have t := tzL R h
  generalize hd : (R : Int) / 32 = d
  have d1 : 32 * d ≤ R := by omega
  have d2 : (R : Int) ≤ 32 * d + 31 := by omega
  have d0 : 0 ≤ d := by omega
  have u1 : gL R (R - 2 * d) ≤ 245827 * R - 225900 * (R - 2 * d) := (gL_le R (R - 2 * d)).2.2.2.2.2.2.1
  have u2 : 65900 * (R : Int) ≤ 100000 * R - gL R (R - 2 * d) := by omega
  have m2 := Int.mul_le_mul_of_nonneg_left u2 d0
  rw [Int.mul_left_comm, Int.mul_sub] at m2
  have m3 := Int.mul_le_mul_of_nonneg_right d2 (show (0 : Int) ≤ R by omega)
  rw [Int.add_mul, Int.mul_assoc] at m3
  have m4 := Int.mul_le_mul_of_nonneg_right (show (96 : Int) ≤ R by omega) (show (0 : Int) ≤ R by omega)
  unfold psiL
  rw [Int.toNat_natCast]
  generalize tz (gL R) R = T at *
  generalize d * gL R (R - 2 * d) = X at *
  generalize d * (100000 * (R : Int)) = Y at *
  generalize d * (R : Int) = Z at *
  generalize (R : Int) * R = Q at *
  omega
end Go.Proofs.YtgjdopjolokaiaaGreat

/- Plain facts: from below a circle to above it the bounds overlap with those of the whole area. No program stands in this text. -/
namespace Go.Proofs.YtgjdopjolokaiaaGreat

/-! ### small circles: unit strips -/
def sumTo (f : Nat → Int) : Nat → Int
  | 0 => 0
  | n + 1 => sumTo f n + f n
theorem sumTo_same {f g : Nat → Int} (n : Nat) (h : ∀ k, k < n → f k = g k) : sumTo f n = sumTo g n := by
  induction n with
  | zero => rfl
  | succ n ih =>
    show sumTo f n + f n = sumTo g n + g n
    rw [ih (fun k hk => h k (by omega)), h n (by omega)]
noncomputable def unL (r y : Int) : Int := 2 * sumTo (fun k => hcL r (k + 1)) y.toNat
noncomputable def unH (r y : Int) : Int := 2 * sumTo (fun k => hcH r k) y.toNat
theorem un_low (r : Int) (hr : 0 ≤ r) : LowP 1 r 0 (unL r) := by
  have key : ∀ (n a : Nat), 2 * ((n : Int) * hcL r (a + n)) ≤ unL r (a + n) - unL r a := by
    intro n a
    induction n with
    | zero => simp
    | succ n ih =>
      have e : unL r ((a : Int) + ((n + 1 : Nat) : Int)) = unL r (a + n) + 2 * hcL r (a + n + 1) := by
        unfold unL
        rw [show ((a : Int) + ((n + 1 : Nat) : Int)).toNat = a + n + 1 by omega, show ((a : Int) + (n : Int)).toNat = a + n by omega]
        show 2 * (sumTo _ (a + n) + hcL r (((a + n : Nat) : Int) + 1)) = _
        rw [Int.natCast_add]; omega
      have g := (hc_further r (a + n) (a + n + 1) hr (by omega) (by omega)).1
      have m := Int.mul_le_mul_of_nonneg_left g (show (0 : Int) ≤ n by omega)
      rw [e, show (a : Int) + ((n + 1 : Nat) : Int) = a + n + 1 by omega, show ((n + 1 : Nat) : Int) = (n : Int) + 1 by omega, Int.add_mul]
      omega
  have stp : ∀ a b : Int, 0 ≤ a → a ≤ b → 2 * ((b - a) * hcL r b) ≤ unL r b - unL r a := by
    intro a b a0 ab
    obtain ⟨A, rfl⟩ := Int.eq_ofNat_of_zero_le a0
    obtain ⟨n, hn⟩ := Int.eq_ofNat_of_zero_le (show 0 ≤ b - A by omega)
    obtain rfl : b = A + n := by omega
    rw [hn]
    exact key n A
  have z : unL r 0 = 0 := by simp [unL, sumTo]
  refine ⟨fun a b a0 ab _ _ => by rw [Int.one_mul]; exact stp a b a0 ab, fun b b0 _ => ?_, fun a b a0 ab _ => ?_⟩
  · have := stp 0 b (by omega) b0
    rw [z, Int.sub_zero, Int.sub_zero] at this
    rw [Int.one_mul]; exact this
  · have := stp a b a0 ab
    have := Int.mul_nonneg (show 0 ≤ b - a by omega) (hc_le r b hr).1
    omega
theorem un_high (r : Int) (hr : 0 ≤ r) : HighP 1 r 0 (unH r) := by
  have key : ∀ (n a : Nat), unH r (a + n) - unH r a ≤ 2 * ((n : Int) * hcH r a) := by
    intro n a
    induction n with
    | zero => simp
    | succ n ih =>
      have e : unH r ((a : Int) + ((n + 1 : Nat) : Int)) = unH r (a + n) + 2 * hcH r (a + n) := by
        unfold unH
        rw [show ((a : Int) + ((n + 1 : Nat) : Int)).toNat = a + n + 1 by omega, show ((a : Int) + (n : Int)).toNat = a + n by omega]
        show 2 * (sumTo _ (a + n) + hcH r ((a + n : Nat) : Int)) = _
        rw [Int.natCast_add]; omega
      have g := (hc_further r a (a + n) hr (by omega) (by omega)).2
      rw [e, show ((n + 1 : Nat) : Int) = (n : Int) + 1 by omega, Int.add_mul]
      omega
  have stp : ∀ a b : Int, 0 ≤ a → a ≤ b → unH r b - unH r a ≤ 2 * ((b - a) * hcH r a) := by
    intro a b a0 ab
    obtain ⟨A, rfl⟩ := Int.eq_ofNat_of_zero_le a0
    obtain ⟨n, hn⟩ := Int.eq_ofNat_of_zero_le (show 0 ≤ b - A by omega)
    obtain rfl : b = A + n := by omega
    rw [hn]
    exact key n A
  have z : unH r 0 = 0 := by simp [unH, sumTo]
  refine ⟨fun a w a0 ar _ w0 => ?_, fun b b0 => ?_⟩
  · rw [Int.one_mul]
    have := stp a (min (a + w) r) a0 (by omega)
    have g := (hc_le r a hr)
    have := Int.mul_le_mul_of_nonneg_right (show min (a + w) r - a ≤ w by omega) (show 0 ≤ hcH r a by omega)
    omega
  · rw [Int.one_mul]
    have := stp 0 (min b r) (by omega) (by omega)
    rw [z, hcH_zero r hr, Int.sub_zero, Int.sub_zero] at this
    have := Int.mul_le_mul_of_nonneg_right (show min b r ≤ b by omega) hr
    omega

/-- the root of a small number, reckoned -/
def iqs (n : Nat) : Nat → Nat → Nat
  | 0, q => q
  | k + 1, q => if (q + 2 ^ k) * (q + 2 ^ k) ≤ n then iqs n k (q + 2 ^ k) else iqs n k q
theorem iqs_spec (n : Nat) : ∀ (k q : Nat), q * q ≤ n → n < (q + 2 ^ k) * (q + 2 ^ k) → iqs n k q * iqs n k q ≤ n ∧ n < (iqs n k q + 1) * (iqs n k q + 1) := by
  intro k
  induction k with
  | zero => intro q h1 h2; exact ⟨h1, by show n < (q + 1) * (q + 1); simpa using h2⟩
  | succ k ih =>
    intro q h1 h2
    unfold iqs
    by_cases h : (q + 2 ^ k) * (q + 2 ^ k) ≤ n
    · rw [if_pos h]
      refine ih _ h ?_
      rw [show q + 2 ^ k + 2 ^ k = q + 2 ^ (k + 1) by rw [Nat.pow_succ]; omega]; exact h2
    · rw [if_neg h]
      exact ih q h1 (by omega)
def iq (n : Nat) : Nat := iqs n 7 0
def ic (n : Nat) : Nat := if iq n * iq n < n then iq n + 1 else iq n
theorem rt_iq (n : Nat) (h : n < 16384) : rt n = iq n := by
  obtain ⟨h1, h2⟩ := iqs_spec n 7 0 (by omega) (by simpa using h)
  exact rt_of (by omega) (by exact_mod_cast h1) (by exact_mod_cast h2)
theorem ce_ic (n : Nat) (h : n < 16384) : ce n = ic n := by
  unfold ce ic
  rw [rt_iq n h]
  by_cases g : iq n * iq n < n
  · rw [if_pos g, if_pos (by exact_mod_cast g)]; simp
  · rw [if_neg g, if_neg (by exact_mod_cast g)]
def addTo (f : Nat → Nat) : Nat → Nat
  | 0 => 0
  | n + 1 => addTo f n + f n
theorem sum_add (f : Nat → Nat) (n : Nat) : sumTo (fun k => (f k : Int)) n = (addTo f n : Int) := by
  induction n with
  | zero => rfl
  | succ n ih =>
    show sumTo _ n + (f n : Int) = ((addTo f n + f n : Nat) : Int)
    rw [ih, Int.natCast_add]
def smallOk (R : Nat) : Bool := decide (452 * addTo (fun k => iq (R * R - (k + 1) * (k + 1))) R ≤ 355 * (R * R)) && decide (333 * (R * R) < 424 * addTo (fun k => ic (R * R - k * k)) R + 106)
theorem small_ok : ∀ R, R < 96 → smallOk R = true := by decide +kernel
theorem sq_nat {k R : Nat} (h : k ≤ R) : ((R * R - k * k : Nat) : Int) = (R : Int) * R - (k : Int) * k := by
  have := Nat.mul_le_mul h h
  rw [Int.ofNat_sub this, Int.natCast_mul, Int.natCast_mul]
theorem unL_small (R : Nat) (h : R < 96) : 226 * unL R R ≤ 355 * ((R : Int) * R) := by
  have ok := small_ok R h
  simp only [smallOk, Bool.and_eq_true, decide_eq_true_eq] at ok
  have e : sumTo (fun k => hcL R (k + 1)) R = (addTo (fun k => iq (R * R - (k + 1) * (k + 1))) R : Int) := by
    rw [← sum_add]
    refine sumTo_same R fun k hk => ?_
    show hcL R ((k : Int) + 1) = _
    rw [← rt_iq _ (by have := Nat.mul_le_mul (show R ≤ 95 by omega) (show R ≤ 95 by omega); omega), sq_nat (by omega)]
    unfold hcL
    rw [if_neg (by omega), Int.natCast_add, Int.natCast_one]
  unfold unL
  rw [Int.toNat_natCast, e]
  have := ok.1
  have e2 : ((R * R : Nat) : Int) = (R : Int) * R := Int.natCast_mul _ _
  omega
theorem unH_small (R : Nat) (h : R < 96) : 333 * ((R : Int) * R) < 212 * unH R R + 106 := by
  have ok := small_ok R h
  simp only [smallOk, Bool.and_eq_true, decide_eq_true_eq] at ok
  have e : sumTo (fun k => hcH R k) R = (addTo (fun k => ic (R * R - k * k)) R : Int) := by
    rw [← sum_add]
    refine sumTo_same R fun k hk => ?_
    show hcH R (k : Int) = _
    rw [← ce_ic _ (by have := Nat.mul_le_mul (show R ≤ 95 by omega) (show R ≤ 95 by omega); omega), sq_nat (by omega)]
    unfold hcH
    rw [if_neg (by omega)]
  unfold unH
  rw [Int.toNat_natCast, e]
  have := ok.2
  have e2 : ((R * R : Nat) : Int) = (R : Int) * R := Int.natCast_mul _ _
  omega

/-! ### heights of n strips -/
def hs (top : Int) (n : Nat) : List Int := (List.range (n + 1)).map fun (i : Nat) => (i : Int) * top / n
theorem hs_len (top : Int) (n : Nat) : (hs top n).length = n + 1 := by simp [hs]
theorem hs_get (top : Int) (n i : Nat) (h : i ≤ n) : (hs top n).getD i 0 = (i : Int) * top / n := by
  unfold hs
  rw [List.getD_eq_getElem?_getD, List.getElem?_map, List.getElem?_range (by omega)]
  rfl
theorem hs_wide (top : Int) (n i : Nat) (hn : 1 ≤ n) (h : i < n) : top / n ≤ (hs top n).getD (i + 1) 0 - (hs top n).getD i 0 := by
  rw [hs_get _ _ _ (by omega), hs_get _ _ _ (by omega)]
  have e : ((i + 1 : Nat) : Int) * top = i * top + top := by rw [Int.natCast_add, Int.add_mul]; simp
  rw [e]
  have h0 : (0 : Int) < n := by omega
  have a := Int.ediv_mul_le ((i : Int) * top) (show (n : Int) ≠ 0 by omega)
  have b := Int.ediv_mul_le top (show (n : Int) ≠ 0 by omega)
  have : (i : Int) * top / n + top / n ≤ (i * top + top) / n := by
    apply Int.le_ediv_of_mul_le h0
    rw [Int.add_mul]; omega
  omega
theorem hs_right (top : Int) (n : Nat) (hn : 1 ≤ n) (hn2 : n ≤ 64) (h0 : 0 ≤ top) (h1 : top ≤ 200000) : HR (hs top n) := by
  have hp : (0 : Int) < n := by omega
  have hw : 0 ≤ top / n := Int.ediv_nonneg h0 (by omega)
  refine ⟨by rw [hs_len]; omega, by rw [hs_len]; omega, fun i hi => ?_, fun i hi => ?_⟩
  · rw [hs_len] at hi
    rw [hs_get _ _ _ (by omega)]
    refine ⟨Int.ediv_nonneg (Int.mul_nonneg (by omega) h0) (by omega), ?_⟩
    have : (i : Int) * top / n < 200001 := by
      apply Int.ediv_lt_of_lt_mul hp
      have m1 := Int.mul_le_mul_of_nonneg_right (show (i : Int) ≤ n by omega) h0
      have m2 := Int.mul_le_mul_of_nonneg_left h1 (show (0 : Int) ≤ n by omega)
      omega
    omega
  · rw [hs_len] at hi
    have := hs_wide top n i hn (by omega)
    omega
theorem whole (R : Nat) (c : Int) (n : Nat) (hR : R ≤ 100000) (hc : (R : Int) ≤ c) (hc2 : c ≤ 100000) (hn : 1 ≤ n) (hn2 : n ≤ 64) :
    113 * prL R c (hs (c + R) n) n ≤ 355 * ((R : Int) * R) ∧ 333 * ((R : Int) * R) < 106 * prH R c (hs (c + R) n) n + 106 := by
  have hr := hs_right (c + R) n hn hn2 (by omega) (by omega)
  have g0 : (hs (c + R) n).getD 0 0 = 0 := by rw [hs_get _ _ _ (by omega)]; simp
  have gn : (hs (c + R) n).getD n 0 = c + R := by
    rw [hs_get _ _ _ (by omega)]
    exact Int.mul_ediv_cancel_left _ (by omega)
  have wid : ∀ i, i < n → (c + R) / n ≤ (hs (c + R) n).getD (i + 1) 0 - (hs (c + R) n).getD i 0 := fun i hi => hs_wide _ n i hn hi
  have w0 : 0 ≤ (c + R) / n := Int.ediv_nonneg (by omega) (by omega)
  by_cases hs96 : R < 96
  · have l := low_sum (un_low R (by omega)) (by omega) (by omega) c (hs (c + R) n) n (fun i hi => by have := wid i hi; omega)
    have h := high_sum (un_high R (by omega)) (by omega) (by omega) (by simp [unH, sumTo]) c (hs (c + R) n) n (fun i hi => by have := wid i hi; omega)
    rw [g0, gn] at l h
    have e1 : c + R - c = R := by omega
    rw [e1, Int.one_mul] at l h
    have s1 := unL_small R hs96
    have s2 := unH_small R hs96
    have p0 : unL R 0 = 0 := by simp [unL, sumTo]
    have p1 : unH R 0 = 0 := by simp [unH, sumTo]
    rw [od_pos _ _ _ (by omega), show min (R : Int) R = R by omega] at l h
    by_cases hz : c = 0
    · obtain rfl : R = 0 := by omega
      subst hz
      rw [od_pos _ _ _ (by omega)] at l h
      simp at l h ⊢
      omega
    · rw [od_neg _ _ _ (by omega), show min (-(0 - c)) (R : Int) = R by omega] at l h
      omega
  · have d32 : (R : Int) / 32 ≤ (c + R) / n := by
      apply Int.le_ediv_of_mul_le (by omega)
      have m := Int.mul_le_mul_of_nonneg_left (show (n : Int) ≤ 64 by omega) (show 0 ≤ (R : Int) / 32 by omega)
      omega
    have hU : LowP 100000 R ((R : Int) / 32) (phiU (gU R) ((R : Int) / 32)) := by
      refine lowP_of (M := 350000) (gU_conc R) (by omega) (by omega) (by omega) (fun y h1 h2 => hcL_up R y (by omega) h1 h2) (fun k => ?_) ?_
      · have g := gU_le R k
        have := gU_ge R (k + 1) (gU R k - 350000) ⟨by omega, by omega, by omega, by omega, by omega, by omega⟩
        omega
      · have := gU_ge R R (14100 * R) ⟨by omega, by omega, by omega, by omega, by omega, by omega⟩
        omega
    have hL : HighP 100000 R ((R : Int) / 32) (psiL (gL R) ((R : Int) / 32) (100000 * R)) := by
      refine highP_of (gL_conc R) (by omega) (by omega) (by omega) ?_ rfl (fun k hk => ?_) (fun y h1 h2 => hcH_low R y (by omega) h1 h2)
      · exact gL_ge R R 0 ⟨by omega, by omega, by omega, by omega, by omega, by omega, by omega, by omega, by omega⟩
      · have := (gL_le R k).1
        have := gL_ge R k (100000 * R) ⟨by omega, by omega, by omega, by omega, by omega, by omega, by omega, by omega, by omega⟩
        omega
    have l := low_sum hU (by omega) (by omega) c (hs (c + R) n) n (fun i hi => by have := wid i hi; omega)
    have p1 : psiL (gL R) ((R : Int) / 32) (100000 * R) 0 = 0 := by
      have := (gL_le R (0 - 2 * ((R : Int) / 32))).1
      have h2 := gL_ge R (0 - 2 * ((R : Int) / 32)) (100000 * R) ⟨by omega, by omega, by omega, by omega, by omega, by omega, by omega, by omega, by omega⟩
      have e : gL R (0 - 2 * ((R : Int) / 32)) = 100000 * R := by omega
      unfold psiL
      rw [e]; simp [tz]
    have h := high_sum hL (by omega) (by omega) p1 c (hs (c + R) n) n (fun i hi => by have := wid i hi; omega)
    rw [g0, gn] at l h
    have e1 : c + R - c = R := by omega
    rw [e1, od_pos _ _ _ (by omega), od_neg _ _ _ (by omega), show min (-(0 - c)) (R : Int) = R by omega, show min (R : Int) R = R by omega] at l h
    have s1 := phi_total R (by omega)
    have s2 := psi_total R (by omega)
    generalize phiU (gU R) ((R : Int) / 32) R = P at *
    generalize psiL (gL R) ((R : Int) / 32) (100000 * R) R = Q at *
    generalize prL R c (hs (c + R) n) n = X at *
    generalize prH R c (hs (c + R) n) n = Y at *
    omega
end Go.Proofs.YtgjdopjolokaiaaGreat

/- What every text of this seat needs: worlds that only grow, the listed variables. -/
namespace Go.Proofs.YtgjdopjolokaiaaGreat
open Go.RowKit

theorem bel_alloc {w w' : World} {o : Obj} (h : Below (w.alloc o).heap.size (w.alloc o) w') : Below w.heap.size w w' :=
  ((Below.refl _ _).alloc (Nat.le_refl _) o).trans (h.mono (by simp))
theorem bel_trans {w w1 w2 : World} (h : Below w.heap.size w w1) (h2 : Below w1.heap.size w1 w2) : Below w.heap.size w w2 := h.trans (h2.mono h.size)
theorem bel_drewN (w : World) (n : Nat) : Below w.heap.size w (w.drewN n) := ⟨rfl, rfl, rfl, Nat.le_refl _, fun _ _ => rfl⟩
theorem bel_drew (w : World) : Below w.heap.size w w.drew := ⟨rfl, rfl, rfl, Nat.le_refl _, fun _ _ => rfl⟩
theorem bcell {W w1 : World} (hb : Below W.heap.size W w1) : (∀ b o, b < W.heap.size → w1.cell? ⟨b, o, none⟩ = W.cell? ⟨b, o, none⟩) ∧ (∀ b o, b < W.heap.size → w1.frozen? ⟨b, o, none⟩ = W.frozen? ⟨b, o, none⟩) :=
  ⟨fun b o h => hb.cell (p := ⟨b, o, none⟩) h, fun b o h => hb.frozen (p := ⟨b, o, none⟩) h⟩

theorem var_keep {P : Program} {w w' : World} {n : String} (g : Nat) (hg : P.globalNamed n = some g) (hlt : g < w.heap.size) (hb : Below w.heap.size w w') : w'.var? P n = w.var? P n := by
  simp only [World.var?, hg, Option.bind_some]
  rw [hb.block g hlt]
theorem tab_keep {P : Program} {w w' : World} {n : String} {k : IntKind} {zs : List Int} (g : Nat) (hg : P.globalNamed n = some g) (hz : 0 < zs.length) (h : Lib.TabIs P w n k zs) (hb : Below w.heap.size w w') : Lib.TabIs P w' n k zs := by
  unfold Lib.TabIs at *
  rw [var_keep g hg ?_ hb, h]
  have := Lib.TabIs.cell (P := P) (W := w) h hg 0 hz
  exact World.block_lt_of_cell? w ⟨g, 0, none⟩ this

/-- a listed table of integers -/
theorem tab_of {P : Program} {W : World} {l : List (String × DataW Unit)} {name : String} {d : DataW Unit} {k : IntKind} {zs : List Int} {g : Nat} {t e : TypeId} {n : Nat}
    (h : laidMet P l W) (hm : (name, d) ∈ l) (hd : d = Lib.tabData k zs)
    (hg : P.globalNamed name = some g) (hty : (P.globals[g]?).map (·.type) = some t) (ht : P.underlying t = some (.array n e)) (he : P.underlying e = some (.int k)) (hce : P.cellsOf e = 1) (hct : P.cellsOf t = n) : Lib.TabIs P W name k zs := by
  subst hd
  obtain ⟨g', t', cs, fuel, p, hg', ht', hvar, hr⟩ := Lib.laidMet.reads h hm
  obtain rfl := Option.some.inj (hg.symm.trans hg')
  obtain rfl := Option.some.inj (hty.symm.trans ht')
  unfold Lib.TabIs
  rw [hvar, ← Lib.cells_of_tab ht he hce hct hr]

theorem wrap_wrap_add (a b : Int) : IntKind.i64.wrap (IntKind.i64.wrap a + b) = IntKind.i64.wrap (a + b) := by simp only [IntKind.wrap_i64]; omega
theorem wrap_wrap_sub (a b : Int) : IntKind.i64.wrap (IntKind.i64.wrap a - b) = IntKind.i64.wrap (a - b) := by simp only [IntKind.wrap_i64]; omega
theorem wrap_add_wrap (a b : Int) : IntKind.i64.wrap (a + IntKind.i64.wrap b) = IntKind.i64.wrap (a + b) := by simp only [IntKind.wrap_i64]; omega
theorem wrap_sub_wrap (a b : Int) : IntKind.i64.wrap (a - IntKind.i64.wrap b) = IntKind.i64.wrap (a - b) := by simp only [IntKind.wrap_i64]; omega
theorem wrap_bd (a : Int) : -9223372036854775808 ≤ IntKind.i64.wrap a ∧ IntKind.i64.wrap a ≤ 9223372036854775807 := by simp only [IntKind.wrap_i64]; omega
theorem wrap_in (a : Int) (h : -9223372036854775808 ≤ a ∧ a ≤ 9223372036854775807) : IntKind.i64.wrap a = a := by simp only [IntKind.wrap_i64]; omega

theorem ret_int {k : IntKind} {a b : Int} (h : a = b) : Ending.returned (.int k a) = .returned (.int k b) := by rw [h]
theorem ret_bool {a b : Bool} (h : a = b) : Ending.returned (.bool a) = .returned (.bool b) := by rw [h]
end Go.Proofs.YtgjdopjolokaiaaGreat

/- A slice that reads as a list of integers. -/
namespace Go.Proofs.YtgjdopjolokaiaaGreat
open Go.RowKit

def Nums (w : World) (v : Value) (zs : List Int) : Prop :=
  ∃ a cap, v = .slice a zs.length cap ∧ (zs.length ≤ cap ∧ cap ≤ 9223372036854775807) ∧
    (zs.length = 0 ∨ ∃ b off, a = some ⟨b, off, none⟩ ∧ b < w.heap.size ∧ ∀ j, j < zs.length → w.cell? ⟨b, off + j, none⟩ = some (.int .i64 (zs.getD j 0)))
theorem Nums.below {w w' : World} {v : Value} {zs : List Int} (h : Nums w v zs) (hb : Below w.heap.size w w') : Nums w' v zs := by
  obtain ⟨a, cap, rfl, hl, h | ⟨b, off, rfl, hlt, hc⟩⟩ := h
  · exact ⟨a, cap, rfl, hl, .inl h⟩
  · exact ⟨_, cap, rfl, hl, .inr ⟨b, off, rfl, Nat.lt_of_lt_of_le hlt hb.size, fun j hj => by rw [(bcell hb).1 _ _ hlt]; exact hc j hj⟩⟩
theorem sum_next (zs : List Int) (k : Nat) (hk : k < zs.length) : (zs.take (k + 1)).sum = (zs.take k).sum + zs.getD k 0 := by
  rw [List.take_succ_eq_append_getElem hk, List.sum_append, List.getD_eq_getElem?_getD, List.getElem?_eq_getElem hk]
  simp
theorem all_next (p : Int → Bool) (zs : List Int) (k : Nat) (hk : k < zs.length) : (zs.take (k + 1)).all p = ((zs.take k).all p && p (zs.getD k 0)) := by
  rw [List.take_succ_eq_append_getElem hk, List.all_append, List.getD_eq_getElem?_getD, List.getElem?_eq_getElem hk]
  simp
theorem all_not (p : Int → Bool) (zs : List Int) (k : Nat) (hk : k < zs.length) (h : p (zs.getD k 0) = false) : zs.all p = false := by
  rw [Bool.eq_false_iff]
  intro ha
  rw [List.all_eq_true] at ha
  rw [List.getD_eq_getElem?_getD, List.getElem?_eq_getElem hk, Option.getD_some] at h
  rw [ha _ (List.getElem_mem hk)] at h
  cases h
end Go.Proofs.YtgjdopjolokaiaaGreat

/- The reference of layer 7: Heights. -/
namespace Go.Proofs.YtgjdopjolokaiaaGreat
open Go.RowKit

theorem info_int : (Tryz.prog.info? 3).map (fun i => (i.zero, i.size, i.bytes)) = some (some (.int .i64 0), 1, 8) := by kernel_rfl
def heB (top n : Int) : Bool := decide (0 ≤ top) && decide (top ≤ 200000) && decide (1 ≤ n) && decide (n ≤ 64)
theorem heB_iff (top n : Int) : heB top n = true ↔ (0 ≤ top ∧ top ≤ 200000) ∧ 1 ≤ n ∧ n ≤ 64 := by simp [heB, and_assoc]
def heE (top n : Int) : Int := if heB top n = true then 0 else 2
def heL (top n : Int) : List Int := if heB top n = true then hs top n.toNat else []
def hk (top n : Int) (k : Nat) : List Int := (List.range k).map fun (i : Nat) => (i : Int) * top / n
theorem hk_len (top n : Int) (k : Nat) : (hk top n k).length = k := by simp [hk]
theorem hk_succ (top n : Int) (k : Nat) : hk top n (k + 1) = hk top n k ++ [(k : Int) * top / n] := by simp [hk, List.range_succ]
theorem nums_of_own {w : World} {B n : Nat} {v : Value} {zs : List Int} (h : w.ownsRow B 3 1 v n (zs.map (Value.int .i64))) : Nums w v zs := by
  have hl : zs.length = n := by have := h.1; simpa using this
  obtain ⟨_, h2⟩ := h
  rcases h2 with ⟨rfl, rfl⟩ | ⟨g, cap, cur, rfl, hg, hh, hc, hm, hs, ht⟩
  · exact ⟨none, 0, by rw [hl], by omega, .inl hl⟩
  · have hlt : g < w.heap.size := by
      rcases Nat.lt_or_ge g w.heap.size with h | h
      · exact h
      · rw [Array.getElem?_eq_none h] at hh; cases hh
    refine ⟨some ⟨g, 0, none⟩, cap, by rw [hl], ⟨by omega, by unfold maxLen at hm; omega⟩, .inr ⟨g, 0, rfl, hlt, fun j hj => ?_⟩⟩
    have hrow : w.ownsRow B 3 1 (.slice (some ⟨g, 0, none⟩) n cap) n (zs.map (Value.int .i64)) := ⟨by simp [hl], .inr ⟨g, cap, cur, rfl, hg, hh, hc, hm, hs, ht⟩⟩
    rw [Nat.zero_add, World.ownsRow.cellAt hrow j (by omega)]
    simp [List.getD, List.getElem?_eq_getElem hj]
theorem own_more {B k : Nat} {w wr w1 : World} {v v' : Value} {zs : List Int} {x : Int} {o : Obj} (hB : B ≤ wr.heap.size) (hnx : Below B w wr)
    (hown : wr.ownsRow B 3 1 v k (zs.map (Value.int .i64))) (hown' : w1.ownsRow B 3 1 v' (k + 1) (zs.map (Value.int .i64) ++ [.int .i64 x])) (hgrow : (wr.alloc o).grownBy w1 v.ownBlock) :
    w1.ownsRow B 3 1 v' (k + 1) ((zs ++ [x]).map (Value.int .i64)) ∧ Below B w w1 :=
  ⟨by simpa using hown', (hnx.alloc hB o).grown hgrow (by simp; omega) (fun j hj => (hown.lt j hj).1)⟩

set_option maxHeartbeats 2000000 in
set_option maxRecDepth 1000000 in
theorem refHts_own (top : Int) (n : Nat) (w : World) (t0 : 0 ≤ top) (t1 : top ≤ 200000) (n0 : 1 ≤ n) (n1 : n ≤ 64) :
    Calls Tryz.prog 34 #[.int .i64 top, .int .i64 n] w fun e w' => ∃ v, e = .returned (.tuple #[v, .int .i64 0]) ∧ w'.ownsRow w.heap.size 3 1 v (n + 1) ((hs top n).map (Value.int .i64)) ∧ Below w.heap.size w w' := by
  obtain ⟨i0, hi, hz0, hz1, hz2⟩ := info_parts info_int
  go_enter Tryz.func34, Tryz.ntmps34
  go_wp2
  go_loopw [6, 7] (fun v ii wr => ∃ k : Nat, k ≤ n + 1 ∧ ii = .int .i64 k ∧ wr.ownsRow w.heap.size 3 1 v k ((hk top n k).map (Value.int .i64)) ∧ Below w.heap.size w wr) (fun _ ii _ => n + 1 - (intOf ii).toNat)
  case atStart => exact ⟨0, by omega, rfl, World.ownsRow_nil _ _ _ _, Below.refl _ _⟩
  case round =>
    obtain ⟨k, hk1, rfl, hown, hnx⟩ := hrel
    have m0 : 0 ≤ (k : Int) * top := Int.mul_nonneg (by omega) t0
    have m1 : (k : Int) * top ≤ 65 * 200000 := Int.mul_le_mul (by omega) t1 t0 (by omega)
    have q0 : 0 ≤ (k : Int) * top / n := Int.ediv_nonneg m0 (by omega)
    have q1 : (k : Int) * top / n ≤ (k : Int) * top := Int.ediv_le_self _ m0
    by_cases hlt : k ≤ n
    · go_wp2_with (at_builtin; refine wpList_append_own _ rfl _ _ 25 rfl w.heap.size 3 i0 (.int .i64 0) 1 8 Tryz.underlying25 hi hz0 hz1 hz2 rfl (by decide) _ _ _ rfl (hown.alloc _) ⟨wr.heap.size, 0, none⟩ 1 1 [.int .i64 ((k : Int) * top / n)] rfl rfl ?c1 ?c2 ?c3 ?c4 ?c5 ?_)
      case c1 =>
        intro j u hj
        match j, hj with
        | 0, hj => simp at hj; subst hj; simp [Addr.add]
      case c2 => intro u hu; simp at hu; subst hu; rfl
      case c3 => unfold maxLen; omega
      case c4 => omega
      case c5 => have := hnx.size; simp; omega
      intro v' w1 hown' hgrow _
      have R := own_more hnx.size hnx hown hown' hgrow
      rw [← hk_succ] at R
      clear hown' hgrow hown hnx
      go_wp2
      go_roundw
      case rel => exact ⟨k + 1, by omega, by go_num, R.1, R.2⟩
      case measure => simp [intOf]; omega
    · obtain rfl : k = n + 1 := by omega
      go_wp2
      go_returns
      exact ⟨_, rfl, hown, hnx⟩
theorem refHts_ok (top : Int) (n : Nat) (w : World) (t0 : 0 ≤ top) (t1 : top ≤ 200000) (n0 : 1 ≤ n) (n1 : n ≤ 64) :
    Calls Tryz.prog 34 #[.int .i64 top, .int .i64 n] w fun e w' => ∃ v, e = .returned (.tuple #[v, .int .i64 0]) ∧ Nums w' v (hs top n) ∧ Below w.heap.size w w' :=
  (refHts_own top n w t0 t1 n0 n1).mono fun e w' ⟨v, h1, h2, h3⟩ => ⟨v, h1, nums_of_own h2, h3⟩
theorem refHts_any (top n : Int) (w : World) :
    Calls Tryz.prog 34 #[.int .i64 top, .int .i64 n] w fun e w' => ∃ v, e = .returned (.tuple #[v, .int .i64 (heE top n)]) ∧ Nums w' v (heL top n) ∧ Below w.heap.size w w' := by
  unfold heE heL
  cases h : heB top n with
  | true =>
    obtain ⟨⟨t0, t1⟩, n0, n1⟩ := (heB_iff top n).1 h
    rw [if_pos rfl, if_pos rfl]
    have := refHts_ok top n.toNat w t0 t1 (by omega) (by omega)
    rwa [show ((n.toNat : Nat) : Int) = n by omega] at this
  | false =>
    have hn : top < 0 ∨ (0 ≤ top ∧ 200000 < top) ∨ ((0 ≤ top ∧ top ≤ 200000) ∧ n < 1) ∨ ((0 ≤ top ∧ top ≤ 200000) ∧ 1 ≤ n ∧ 64 < n) := by
      have : ¬ ((0 ≤ top ∧ top ≤ 200000) ∧ 1 ≤ n ∧ n ≤ 64) := fun hc => by rw [(heB_iff top n).2 hc] at h; cases h
      omega
    rw [if_neg (by simp), if_neg (by simp)]
    clear h
    rcases hn with hn | ⟨hn, hn2⟩ | ⟨⟨hn, hn2⟩, hn3⟩ | ⟨⟨hn, hn2⟩, hn3, hn4⟩
    all_goals
      go_enter Tryz.func34, Tryz.ntmps34
      go_wp2
      go_returns
      exact ⟨_, rfl, ⟨none, 0, rfl, by simp, .inl rfl⟩, Below.refl _ _⟩
end Go.Proofs.YtgjdopjolokaiaaGreat

/- A cell below. -/
namespace Go.Proofs.YtgjdopjolokaiaaGreat
open Go.RowKit

theorem cell_bel {w w' : World} {p : Addr} {v : Value} (h : w.cell? p = some v) (hb : Below w.heap.size w w') : w'.cell? p = some v := by
  rw [hb.cell (World.block_lt_of_cell? w _ h)]; exact h
end Go.Proofs.YtgjdopjolokaiaaGreat

/- A block with two cells. -/
namespace Go.Proofs.YtgjdopjolokaiaaGreat
open Go.RowKit

def Two (b : Nat) (W : World) (x y : Value) : Prop := W.cell? ⟨b, 0, none⟩ = some x ∧ W.cell? ⟨b, 1, none⟩ = some y ∧ W.frozen? ⟨b, 0, none⟩ = false ∧ W.frozen? ⟨b, 1, none⟩ = false ∧ b < W.heap.size
theorem Two.below {b : Nat} {W W' : World} {x y : Value} (h : Two b W x y) (hb : Below W.heap.size W W') : Two b W' x y := by
  obtain ⟨h0, h1, h2, h3, h4⟩ := h
  exact ⟨by rw [(bcell hb).1 _ _ h4]; exact h0, by rw [(bcell hb).1 _ _ h4]; exact h1, by rw [(bcell hb).2 _ _ h4]; exact h2, by rw [(bcell hb).2 _ _ h4]; exact h3, Nat.lt_of_lt_of_le h4 hb.size⟩
theorem Two.alloc {b : Nat} {W : World} {x y : Value} (h : Two b W x y) (o : Obj) : Two b (W.alloc o) x y := h.below (bel_alloc (Below.refl _ _))
theorem Two.new (W : World) (x y : Value) (T : TypeId) : Two W.heap.size (W.alloc (.cells #[x, y] T)) x y := ⟨by simp [go_sem], by simp [go_sem], by simp [go_sem], by simp [go_sem], by simp⟩
theorem two_read (w : World) (b : Nat) (u v : Value) {a c : Value} (h0 : w.cell? ⟨b, 0, none⟩ = some a) (h1 : w.cell? ⟨b, 1, none⟩ = some c) :
    ((w.setCell ⟨b, 0, none⟩ u).setCell ⟨b, 1, none⟩ v).cell? ⟨b, 0, none⟩ = some u ∧ ((w.setCell ⟨b, 0, none⟩ u).setCell ⟨b, 1, none⟩ v).cell? ⟨b, 1, none⟩ = some v := by
  refine ⟨?_, ?_⟩
  · rw [World.cell?_setCell_other _ _ _ _ (by simp), World.cell?_setCell_same _ _ _ h0]
  · rw [World.cell?_setCell_same (u := c)]
    rw [World.cell?_setCell_other _ _ _ _ (by simp), h1]
theorem Two.set1 {b : Nat} {W : World} {x y : Value} (h : Two b W x y) (z : Value) : Two b (W.setCell ⟨b, 1, none⟩ z) x z := by
  obtain ⟨h0, h1, h2, h3, h4⟩ := h
  refine ⟨?_, ?_, ?_, ?_, ?_⟩
  · rw [World.cell?_setCell_other _ _ _ _ (by simp)]; exact h0
  · exact World.cell?_setCell_same _ _ _ h1
  · rw [World.frozen?_setCell]; exact h2
  · rw [World.frozen?_setCell]; exact h3
  · simpa [World.setCell] using h4
theorem Two.other {b : Nat} {W : World} {x y : Value} (h : Two b W x y) (p : Addr) (hp : p.block ≠ b) (z : Value) : Two b (W.setCell p z) x y := by
  obtain ⟨h0, h1, h2, h3, h4⟩ := h
  refine ⟨?_, ?_, ?_, ?_, ?_⟩
  · rw [World.cell?_setCell_other _ _ _ _ (by intro e; apply hp; rw [e])]; exact h0
  · rw [World.cell?_setCell_other _ _ _ _ (by intro e; apply hp; rw [e])]; exact h1
  · rw [World.frozen?_setCell]; exact h2
  · rw [World.frozen?_setCell]; exact h3
  · simpa [World.setCell] using h4
theorem Two.set0 {b : Nat} {W : World} {x y : Value} (h : Two b W x y) (z : Value) : Two b (W.setCell ⟨b, 0, none⟩ z) z y := by
  obtain ⟨h0, h1, h2, h3, h4⟩ := h
  refine ⟨?_, ?_, ?_, ?_, ?_⟩
  · exact World.cell?_setCell_same _ _ _ h0
  · rw [World.cell?_setCell_other _ _ _ _ (by simp)]; exact h1
  · rw [World.frozen?_setCell]; exact h2
  · rw [World.frozen?_setCell]; exact h3
  · simpa [World.setCell] using h4
end Go.Proofs.YtgjdopjolokaiaaGreat

/- Slices that read as lists of points; comparisons. -/
namespace Go.Proofs.YtgjdopjolokaiaaGreat
open Go.RowKit Go.Sort

/-- the point at a place of a list -/
def gX (l : List (Int × Int)) (j : Nat) : Int := (l.getD j (0, 0)).1
def gR (l : List (Int × Int)) (j : Nat) : Int := (l.getD j (0, 0)).2

/-- a value is a slice that reads as a list of points -/
def Pts (w : World) (v : Value) (l : List (Int × Int)) : Prop :=
  ∃ a cap, v = .slice a l.length cap ∧ (l.length ≤ cap ∧ cap ≤ 9223372036854775807) ∧
    (l.length = 0 ∨ ∃ b off, a = some ⟨b, off, none⟩ ∧ b < w.heap.size ∧ ∀ j, j < l.length → w.cell? ⟨b, off + j * 2, none⟩ = some (.int .i64 (gX l j)) ∧ w.cell? ⟨b, off + j * 2 + 1, none⟩ = some (.int .i64 (gR l j)))
theorem Pts.below {w w' : World} {v : Value} {l : List (Int × Int)} (h : Pts w v l) (hb : Below w.heap.size w w') : Pts w' v l := by
  obtain ⟨a, cap, rfl, hl, h | ⟨b, off, rfl, hlt, hc⟩⟩ := h
  · exact ⟨a, cap, rfl, hl, .inl h⟩
  · exact ⟨_, cap, rfl, hl, .inr ⟨b, off, rfl, Nat.lt_of_lt_of_le hlt hb.size, fun j hj => by rw [(bcell hb).1 _ _ hlt, (bcell hb).1 _ _ hlt]; exact hc j hj⟩⟩
theorem Pts.alloc {w : World} {v : Value} {l : List (Int × Int)} (h : Pts w v l) (o : Obj) : Pts (w.alloc o) v l := h.below (bel_alloc (Below.refl _ _))
theorem Pts.shape {W : World} {v : Value} {l : List (Int × Int)} (h : Pts W v l) : ∃ a cap, v = .slice a l.length cap ∧ l.length ≤ cap ∧ cap ≤ 9223372036854775807 := by
  obtain ⟨a, cap, e, ⟨h1, h2⟩, _⟩ := h
  exact ⟨a, cap, e, h1, h2⟩
theorem Pts.len {W : World} {a : Option Addr} {n cap : Nat} {l : List (Int × Int)} (h : Pts W (.slice a n cap) l) : n = l.length := by
  obtain ⟨a', c', e, _⟩ := h
  simp only [Value.slice.injEq] at e
  exact e.2.1
theorem Pts.at {W : World} {a : Option Addr} {n cap : Nat} {l : List (Int × Int)} (h : Pts W (.slice a n cap) l) (h0 : 0 < n) :
    ∃ b off, a = some ⟨b, off, none⟩ ∧ b < W.heap.size ∧ ∀ j, j < n → W.cell? ⟨b, off + j * 2, none⟩ = some (.int .i64 (gX l j)) ∧ W.cell? ⟨b, off + j * 2 + 1, none⟩ = some (.int .i64 (gR l j)) := by
  have hl := h.len
  obtain ⟨a', c', e, _, hh⟩ := h
  simp only [Value.slice.injEq] at e
  obtain ⟨rfl, rfl, rfl⟩ := e
  rcases hh with hh | hh
  · omega
  · exact hh
theorem pts_nil (w : World) : Pts w (.slice none 0 0) [] := ⟨none, 0, rfl, by simp, .inl rfl⟩

/-- the cells of a list of points -/
def flat : List (Int × Int) → List Value
  | [] => []
  | q :: l => .int .i64 q.1 :: .int .i64 q.2 :: flat l
theorem flat_len (l : List (Int × Int)) : (flat l).length = l.length * 2 := by
  induction l with
  | nil => rfl
  | cons q l ih => simp only [flat, List.length_cons, ih]; omega
theorem flat_app (l m : List (Int × Int)) : flat (l ++ m) = flat l ++ flat m := by
  induction l with
  | nil => rfl
  | cons q l ih => simp only [List.cons_append, flat, ih]
theorem flat_at (l : List (Int × Int)) (j : Nat) (h : j < l.length) : (flat l)[j * 2]? = some (.int .i64 (gX l j)) ∧ (flat l)[j * 2 + 1]? = some (.int .i64 (gR l j)) := by
  induction l generalizing j with
  | nil => simp at h
  | cons q l ih =>
    cases j with
    | zero => simp [flat, gX, gR]
    | succ j =>
      have := ih j (by simpa using h)
      rw [show (j + 1) * 2 = j * 2 + 1 + 1 by omega]
      simp only [flat, List.getElem?_cons_succ, gX, gR, List.getD_cons_succ]
      exact this
theorem flat_one (l : List (Int × Int)) : ∀ u ∈ flat l, u.oneCell' = true := by
  induction l with
  | nil => intro u h; cases h
  | cons q l ih =>
    intro u h
    simp only [flat, List.mem_cons] at h
    rcases h with rfl | rfl | h
    · rfl
    · rfl
    · exact ih u h
theorem flat_inv (l : List (Int × Int)) (j : Nat) (u : Value) (h : (flat l)[j]? = some u) : ∃ i, i < l.length ∧ ((j = i * 2 ∧ u = .int .i64 (gX l i)) ∨ (j = i * 2 + 1 ∧ u = .int .i64 (gR l i))) := by
  have hj : j < (flat l).length := (List.getElem?_eq_some_iff.1 h).1
  rw [flat_len] at hj
  refine ⟨j / 2, by omega, ?_⟩
  have := flat_at l (j / 2) (by omega)
  rcases Nat.mod_two_eq_zero_or_one j with e | e
  · left
    have hj2 : j = j / 2 * 2 := by omega
    refine ⟨hj2, ?_⟩
    have h' := h
    rw [hj2, this.1] at h'
    exact (Option.some.inj h').symm
  · right
    have hj2 : j = j / 2 * 2 + 1 := by omega
    refine ⟨hj2, ?_⟩
    have h' := h
    rw [hj2, this.2] at h'
    exact (Option.some.inj h').symm

/-- a slice of the call's own holds the points -/
def OwnP (w : World) (B : Nat) (v : Value) (l : List (Int × Int)) : Prop := w.ownsRow B 46 2 v l.length (flat l)
theorem OwnP.pts {w : World} {B : Nat} {v : Value} {l : List (Int × Int)} (h : OwnP w B v l) : Pts w v l := by
  have h' := h
  obtain ⟨_, h2⟩ := h
  rcases h2 with ⟨rfl, hn⟩ | ⟨g, cap, cur, rfl, hg, hh, hc, hm, hs, ht⟩
  · exact ⟨none, 0, by rw [hn], by omega, .inl hn⟩
  · have hlt : g < w.heap.size := by
      rcases Nat.lt_or_ge g w.heap.size with h | h
      · exact h
      · rw [Array.getElem?_eq_none h] at hh; cases hh
    unfold maxLen at hm
    refine ⟨_, cap, rfl, ⟨hc, by omega⟩, .inr ⟨g, 0, rfl, hlt, fun j hj => ?_⟩⟩
    have hcell := World.ownsRow.cells h' (g := g) rfl
    have hf := flat_at l j hj
    have c0 := hcell _ _ hf.1
    have c1 := hcell _ _ hf.2
    rw [Go.WideShapes.add_plain] at c0 c1
    exact ⟨c0, by rw [Nat.add_assoc]; exact c1⟩
theorem pts_lit (w : World) (l : List (Int × Int)) (cs : List Value) (h : cs = flat l) (hn : l.length ≤ 1000) :
    Pts (w.alloc (.cells cs.toArray 46)) (.slice (some ⟨w.heap.size, 0, none⟩) l.length l.length) l := by
  refine ⟨_, _, rfl, by omega, .inr ⟨w.heap.size, 0, rfl, by simp, fun j hj => ?_⟩⟩
  subst h
  have hf := flat_at l j hj
  have hl := flat_len l
  rw [World.cell?_alloc_new, World.cell?_alloc_new]
  simp only [Nat.zero_add]
  exact ⟨by simpa using hf.1, by simpa using hf.2⟩

theorem pt_info : (Tryz.prog.info? 46).map (fun i => (i.zero, i.size, i.bytes)) = some (some (.agg #[.int .i64 0, .int .i64 0]), 2, 16) := by kernel_rfl

/-! ### points, compared -/
def samP (a b x y : Int) : Bool := a == x && b == y
theorem run_same_point (a b x y : Int) (w : World) :
    (Op.equalIn 10000 46 (.agg #[.int .i64 a, .int .i64 b]) (.agg #[.int .i64 x, .int .i64 y])).run Tryz.prog w = .ok (samP a b x y) w := by
  rw [show (10000 : Nat) = 9999 + 1 from rfl, run_equalIn_agg w 9999 46 _ _ (by kernel_rfl) (by kernel_rfl)]
  have hf : (Tryz.prog.fieldsOf 46).toList.map (fun f => (f.name, f.type, f.offset)) = [("X", 3, 0), ("Radius", 3, 1)] := by kernel_rfl
  generalize (Tryz.prog.fieldsOf 46).toList = fs at *
  obtain ⟨f, g, rfl⟩ : ∃ f g, fs = [f, g] := by
    have hl := congrArg List.length hf
    rw [List.length_map] at hl
    rcases fs with _ | ⟨f, _ | ⟨g, _ | ⟨h, fs⟩⟩⟩ <;> simp at hl
    exact ⟨f, g, rfl⟩
  simp only [List.map_cons, List.map_nil, List.cons.injEq, Prod.mk.injEq, and_true] at hf
  obtain ⟨⟨f1, f2, f3⟩, g1, g2, g3⟩ := hf
  have eq : ∀ (u v : Int) (W : World), (Op.equalIn 9999 3 (.int .i64 u) (.int .i64 v)).run Tryz.prog W = .ok (u == v) W := fun u v W => run_equalIn_int W 9998 3 .i64 .i64 u v Tryz.underlying3
  by_cases e1 : a = x <;> by_cases e2 : b = y <;> simp [Op.eqFields, f1, f2, f3, g1, g2, g3, go_sem, samP, eq, e1, e2]
theorem run_neq_point (a b x y : Int) (w : World) :
    (binOp .neq 46 (.agg #[.int .i64 a, .int .i64 b]) (.agg #[.int .i64 x, .int .i64 y])).run Tryz.prog w = .ok (.bool (!samP a b x y)) w := by
  rw [run_neq_struct, run_same_point]; rfl
theorem run_eql_point (a b x y : Int) (w : World) :
    (binOp .eql 46 (.agg #[.int .i64 a, .int .i64 b]) (.agg #[.int .i64 x, .int .i64 y])).run Tryz.prog w = .ok (.bool (samP a b x y)) w := by
  rw [run_eql_struct, run_same_point]; rfl
/-! ### bounds, compared -/
def samB (a b x y : Int) : Bool := a == x && b == y
theorem run_same_bounds (a b x y : Int) (w : World) :
    (Op.equalIn 10000 29 (.agg #[.int .i64 a, .int .i64 b]) (.agg #[.int .i64 x, .int .i64 y])).run Tryz.prog w = .ok (samB a b x y) w := by
  rw [show (10000 : Nat) = 9999 + 1 from rfl, run_equalIn_agg w 9999 29 _ _ (by kernel_rfl) (by kernel_rfl)]
  have hf : (Tryz.prog.fieldsOf 29).toList.map (fun f => (f.name, f.type, f.offset)) = [("Low", 3, 0), ("High", 3, 1)] := by kernel_rfl
  generalize (Tryz.prog.fieldsOf 29).toList = fs at *
  obtain ⟨f, g, rfl⟩ : ∃ f g, fs = [f, g] := by
    have hl := congrArg List.length hf
    rw [List.length_map] at hl
    rcases fs with _ | ⟨f, _ | ⟨g, _ | ⟨h, fs⟩⟩⟩ <;> simp at hl
    exact ⟨f, g, rfl⟩
  simp only [List.map_cons, List.map_nil, List.cons.injEq, Prod.mk.injEq, and_true] at hf
  obtain ⟨⟨f1, f2, f3⟩, g1, g2, g3⟩ := hf
  have eq : ∀ (u v : Int) (W : World), (Op.equalIn 9999 3 (.int .i64 u) (.int .i64 v)).run Tryz.prog W = .ok (u == v) W := fun u v W => run_equalIn_int W 9998 3 .i64 .i64 u v Tryz.underlying3
  by_cases e1 : a = x <;> by_cases e2 : b = y <;> simp [Op.eqFields, f1, f2, f3, g1, g2, g3, go_sem, samB, eq, e1, e2]
theorem run_neq_bounds (a b x y : Int) (w : World) :
    (binOp .neq 29 (.agg #[.int .i64 a, .int .i64 b]) (.agg #[.int .i64 x, .int .i64 y])).run Tryz.prog w = .ok (.bool (!samB a b x y)) w := by
  rw [run_neq_struct, run_same_bounds]; rfl
theorem run_eql_bounds (a b x y : Int) (w : World) :
    (binOp .eql 29 (.agg #[.int .i64 a, .int .i64 b]) (.agg #[.int .i64 x, .int .i64 y])).run Tryz.prog w = .ok (.bool (samB a b x y)) w := by
  rw [run_eql_struct, run_same_bounds]; rfl
end Go.Proofs.YtgjdopjolokaiaaGreat

/- Plain facts on a line between two points: its heights rounded down and up. No program stands in this text. -/
namespace Go.Proofs.YtgjdopjolokaiaaGreat

/-- a ratio, rounded up -/
def cdv (n d : Int) : Int := (n + d - 1) / d
theorem fl_iff (n d k : Int) (h : 0 < d) : k ≤ n / d ↔ k * d ≤ n := Int.le_ediv_iff_mul_le h
theorem cl_iff (n d k : Int) (h : 0 < d) : cdv n d ≤ k ↔ n ≤ k * d := by
  unfold cdv
  have e : (k + 1) * d = k * d + d := by rw [Int.add_mul]; omega
  constructor
  · intro hk
    have : (n + d - 1) / d < k + 1 := by omega
    have := Int.lt_mul_of_ediv_lt h this
    rw [e] at this
    omega
  · intro hk
    have : (n + d - 1) / d < k + 1 := Int.ediv_lt_of_lt_mul h (by rw [e]; omega)
    omega
/-- m / b ≤ n / c, as ratios -/
theorem fl_mono {m b n c : Int} (hb : 0 < b) (hc : 0 < c) (h : m * c ≤ n * b) : m / b ≤ n / c := by
  rw [fl_iff _ _ _ hc]
  have h1 := Int.ediv_mul_le m (show b ≠ 0 by omega)
  have h2 := Int.mul_le_mul_of_nonneg_right h1 (show 0 ≤ c by omega)
  have h3 : (m / b * c) * b ≤ n * b := by
    have : m / b * c * b = m / b * b * c := by rw [Int.mul_right_comm]
    omega
  exact Int.le_of_mul_le_mul_right h3 hb
theorem cl_ge (n d : Int) (h : 0 < d) : n ≤ cdv n d * d := (cl_iff n d _ h).1 (Int.le_refl _)
theorem cl_mono {m b n c : Int} (hb : 0 < b) (hc : 0 < c) (h : m * c ≤ n * b) : cdv m b ≤ cdv n c := by
  rw [cl_iff _ _ _ hb]
  have h1 := cl_ge n c hc
  have h2 := Int.mul_le_mul_of_nonneg_right h1 (show 0 ≤ b by omega)
  have h3 : m * c ≤ (cdv n c * b) * c := by
    have : cdv n c * b * c = cdv n c * c * b := by rw [Int.mul_right_comm]
    omega
  exact Int.le_of_mul_le_mul_right h3 hc
theorem fl_same {m b n c : Int} (hb : 0 < b) (hc : 0 < c) (h : m * c = n * b) : m / b = n / c :=
  Int.le_antisymm (fl_mono hb hc (by omega)) (fl_mono hc hb (by omega))
theorem cl_same {m b n c : Int} (hb : 0 < b) (hc : 0 < c) (h : m * c = n * b) : cdv m b = cdv n c :=
  Int.le_antisymm (cl_mono hb hc (by omega)) (cl_mono hc hb (by omega))
theorem fl_cl (n d : Int) (h : 0 < d) : n / d ≤ cdv n d ∧ cdv n d ≤ n / d + 1 := by
  constructor
  · have h1 := Int.ediv_mul_le n (show d ≠ 0 by omega)
    have h2 := cl_ge n d h
    exact Int.le_of_mul_le_mul_right (show n / d * d ≤ cdv n d * d by omega) h
  · rw [cl_iff _ _ _ h, Int.add_mul]
    have h1 := Int.emod_add_mul_ediv n d
    have h2 := Int.emod_lt_of_pos n h
    rw [Int.mul_comm] at h1
    omega
theorem fl_int (k d : Int) (h : 0 < d) : k * d / d = k := Int.mul_ediv_cancel k (by omega)
theorem cl_int (k d : Int) (h : 0 < d) : cdv (k * d) d = k := by
  have h1 := (cl_iff (k * d) d k h).2 (Int.le_refl _)
  have h2 := cl_ge (k * d) d h
  have := Int.le_of_mul_le_mul_right h2 h
  omega

/-! ### a line from (a, p) to (b, q) -/
def lnN (a p b q x : Int) : Int := p * (b - a) + (q - p) * (x - a)
theorem lnN_left (a p b q : Int) : lnN a p b q a = p * (b - a) := by unfold lnN; simp
theorem lnN_right (a p b q : Int) : lnN a p b q b = q * (b - a) := by unfold lnN; grind
theorem lnN_up {a p b q x y : Int} (h : p ≤ q) (hx : x ≤ y) : lnN a p b q x ≤ lnN a p b q y := by
  unfold lnN
  have := Int.mul_le_mul_of_nonneg_left (show x - a ≤ y - a by omega) (show 0 ≤ q - p by omega)
  omega
theorem lnN_down {a p b q x y : Int} (h : q ≤ p) (hx : x ≤ y) : lnN a p b q y ≤ lnN a p b q x := by
  unfold lnN
  have := Int.mul_le_mul_of_nonneg_left (show x - a ≤ y - a by omega) (show 0 ≤ p - q by omega)
  have e : ∀ z, (q - p) * z = -((p - q) * z) := fun z => by grind
  rw [e, e]
  omega
theorem ln_between {a p b q x : Int} (hab : a < b) (h1 : a ≤ x) (h2 : x ≤ b) : min p q ≤ lnN a p b q x / (b - a) ∧ cdv (lnN a p b q x) (b - a) ≤ max p q := by
  have hd : 0 < b - a := by omega
  rw [fl_iff _ _ _ hd, cl_iff _ _ _ hd]
  by_cases h : p ≤ q
  · have u1 := lnN_up (a := a) (b := b) h h1
    have u2 := lnN_up (a := a) (b := b) h h2
    rw [lnN_left] at u1
    rw [lnN_right] at u2
    rw [show min p q = p by omega, show max p q = q by omega]
    exact ⟨u1, u2⟩
  · have u1 := lnN_down (a := a) (b := b) (show q ≤ p by omega) h1
    have u2 := lnN_down (a := a) (b := b) (show q ≤ p by omega) h2
    rw [lnN_left] at u1
    rw [lnN_right] at u2
    rw [show min p q = q by omega, show max p q = p by omega]
    exact ⟨u2, u1⟩
/-- a point (m, s) on the line: both parts are the line -/
theorem ln_part1 {a p b q m s x : Int} (hab : a < b) (hm : a < m) (hs : s * (b - a) = lnN a p b q m) :
    lnN a p m s x / (m - a) = lnN a p b q x / (b - a) ∧ cdv (lnN a p m s x) (m - a) = cdv (lnN a p b q x) (b - a) := by
  have e : lnN a p m s x * (b - a) = lnN a p b q x * (m - a) := by unfold lnN at *; grind
  exact ⟨fl_same (by omega) (by omega) e, cl_same (by omega) (by omega) e⟩
theorem ln_part2 {a p b q m s x : Int} (hab : a < b) (hm : m < b) (hs : s * (b - a) = lnN a p b q m) :
    lnN m s b q x / (b - m) = lnN a p b q x / (b - a) ∧ cdv (lnN m s b q x) (b - m) = cdv (lnN a p b q x) (b - a) := by
  have e : lnN m s b q x * (b - a) = lnN a p b q x * (b - m) := by unfold lnN at *; grind
  exact ⟨fl_same (by omega) (by omega) e, cl_same (by omega) (by omega) e⟩
/-- the line from the other end -/
theorem ln_turn (a p b q x L : Int) : lnN (L - b) q (L - a) p (L - x) = lnN a p b q x ∧ (L - a) - (L - b) = b - a := by
  refine ⟨?_, by omega⟩
  unfold lnN; grind
/-- a line that lies at both ends of a part by t below another one lies so between them -/
theorem ln_below {a p b q c u d v x t : Int} (hab : a < b) (hcd : c < d) (h1 : c ≤ x) (h2 : x ≤ d) (hu : (u + t) * (b - a) ≤ lnN a p b q c) (hv : (v + t) * (b - a) ≤ lnN a p b q d) :
    lnN c u d v x / (d - c) ≤ lnN a p b q x / (b - a) - t ∧ cdv (lnN c u d v x) (d - c) ≤ cdv (lnN a p b q x) (b - a) - t := by
  have m1 := Int.mul_le_mul_of_nonneg_right hu (show 0 ≤ d - x by omega)
  have m2 := Int.mul_le_mul_of_nonneg_right hv (show 0 ≤ x - c by omega)
  have e1 : (lnN c u d v x + t * (d - c)) * (b - a) = (u + t) * (b - a) * (d - x) + (v + t) * (b - a) * (x - c) := by unfold lnN; grind
  have e2 : lnN a p b q x * (d - c) = lnN a p b q c * (d - x) + lnN a p b q d * (x - c) := by unfold lnN; grind
  have key : (lnN c u d v x + t * (d - c)) * (b - a) ≤ lnN a p b q x * (d - c) := by omega
  have hd : 0 < d - c := by omega
  have f1 := fl_mono hd (show 0 < b - a by omega) key
  have f2 := cl_mono hd (show 0 < b - a by omega) key
  have g1 : (lnN c u d v x + t * (d - c)) / (d - c) = lnN c u d v x / (d - c) + t := Int.add_mul_ediv_right _ _ (by omega)
  have g2 : cdv (lnN c u d v x + t * (d - c)) (d - c) = cdv (lnN c u d v x) (d - c) + t := by
    unfold cdv
    rw [show lnN c u d v x + t * (d - c) + (d - c) - 1 = lnN c u d v x + (d - c) - 1 + t * (d - c) by omega]
    exact Int.add_mul_ediv_right _ _ (by omega)
  omega
end Go.Proofs.YtgjdopjolokaiaaGreat

/- Plain facts: lengths. -/
namespace Go.Proofs.YtgjdopjolokaiaaGreat

def lenB (n : Int) : Bool := decide (0 ≤ n) && decide (n ≤ 100000)
theorem lenB_iff (n : Int) : lenB n = true ↔ 0 ≤ n ∧ n ≤ 100000 := by simp [lenB]
end Go.Proofs.YtgjdopjolokaiaaGreat

/- Plain facts of profiles: the first fault, the bung, the pieces. -/
namespace Go.Proofs.YtgjdopjolokaiaaGreat

def ptOut (q : Int × Int) : Bool := !(lenB q.1 && lenB q.2)
def ptCl (q : Int × Int) : Bool := q.2 == 0
/-- the X of the first k + 1 points increase -/
def adv (l : List (Int × Int)) : Nat → Bool
  | 0 => true
  | k + 1 => adv l k && decide (gX l k < gX l (k + 1))
/-- one of the first k pieces falls -/
def fal (l : List (Int × Int)) : Nat → Bool
  | 0 => false
  | k + 1 => fal l k || decide (gR l (k + 1) < gR l k)
/-- one of the first k pieces rises behind one that falls -/
def swl (l : List (Int × Int)) : Nat → Bool
  | 0 => false
  | k + 1 => swl l k || (fal l k && decide (gR l k < gR l (k + 1)))
/-- the first fault -/
def ckE (l : List (Int × Int)) : Int :=
  if l.length < 2 then 9 else if 32 < l.length then 8 else if l.any ptOut then 2 else if (adv l (l.length - 1) && (gX l 0 == 0)) = false then 5 else if l.any ptCl then 16 else if swl l (l.length - 1) then 10 else 0
/-- a right profile -/
structure RP (l : List (Int × Int)) : Prop where
  n0 : 2 ≤ l.length
  n1 : l.length ≤ 32
  bx : ∀ i, i < l.length → 0 ≤ gX l i ∧ gX l i ≤ 100000
  br : ∀ i, i < l.length → 1 ≤ gR l i ∧ gR l i ≤ 100000
  x0 : gX l 0 = 0
  asc : ∀ i, i + 1 < l.length → gX l i < gX l (i + 1)
  ns : ∀ i j, i ≤ j → j + 1 < l.length → gR l (i + 1) < gR l i → gR l (j + 1) ≤ gR l j

theorem any_of {p : Int × Int → Bool} {l : List (Int × Int)} {i : Nat} (h : i < l.length) (hp : p (l.getD i (0, 0)) = true) : l.any p = true := by
  rw [List.any_eq_true]
  rw [List.getD_eq_getElem?_getD, List.getElem?_eq_getElem h, Option.getD_some] at hp
  exact ⟨_, List.getElem_mem h, hp⟩
theorem any_not {p : Int × Int → Bool} {l : List (Int × Int)} (h : ∀ i, i < l.length → p (l.getD i (0, 0)) = false) : l.any p = false := by
  rw [List.any_eq_false]
  intro x hx
  obtain ⟨i, hi, rfl⟩ := List.getElem_of_mem hx
  have := h i hi
  rw [List.getD_eq_getElem?_getD, List.getElem?_eq_getElem hi, Option.getD_some] at this
  rw [this]; simp
theorem not_any {p : Int × Int → Bool} {l : List (Int × Int)} (h : l.any p = false) {i : Nat} (hi : i < l.length) : p (l.getD i (0, 0)) = false := by
  cases hq : p (l.getD i (0, 0)) with
  | false => rfl
  | true => rw [any_of hi hq] at h; cases h
theorem adv_iff (l : List (Int × Int)) (k : Nat) : adv l k = true ↔ ∀ i, i < k → gX l i < gX l (i + 1) := by
  induction k with
  | zero => simp [adv]
  | succ k ih =>
    rw [adv, Bool.and_eq_true, ih, decide_eq_true_eq]
    constructor
    · rintro ⟨h1, h2⟩ i hi
      by_cases e : i = k
      · rw [e]; exact h2
      · exact h1 i (by omega)
    · intro h
      exact ⟨fun i hi => h i (by omega), h k (by omega)⟩
theorem fal_iff (l : List (Int × Int)) (k : Nat) : fal l k = true ↔ ∃ i, i < k ∧ gR l (i + 1) < gR l i := by
  induction k with
  | zero => simp [fal]
  | succ k ih =>
    rw [fal, Bool.or_eq_true, ih, decide_eq_true_eq]
    constructor
    · rintro (⟨i, h1, h2⟩ | h)
      · exact ⟨i, by omega, h2⟩
      · exact ⟨k, by omega, h⟩
    · rintro ⟨i, h1, h2⟩
      by_cases e : i = k
      · right; rw [← e]; exact h2
      · left; exact ⟨i, by omega, h2⟩
theorem swl_iff (l : List (Int × Int)) (k : Nat) : swl l k = true ↔ ∃ i j, i < j ∧ j < k ∧ gR l (i + 1) < gR l i ∧ gR l j < gR l (j + 1) := by
  induction k with
  | zero => simp [swl]
  | succ k ih =>
    rw [swl, Bool.or_eq_true, ih, Bool.and_eq_true, fal_iff, decide_eq_true_eq]
    constructor
    · rintro (⟨i, j, h1, h2, h3⟩ | ⟨⟨i, h1, h2⟩, h3⟩)
      · exact ⟨i, j, h1, by omega, h3⟩
      · exact ⟨i, k, h1, by omega, h2, h3⟩
    · rintro ⟨i, j, h1, h2, h3, h4⟩
      by_cases e : j = k
      · right; rw [e] at h1 h4; exact ⟨⟨i, h1, h3⟩, h4⟩
      · left; exact ⟨i, j, h1, by omega, h3, h4⟩
theorem ckE_iff (l : List (Int × Int)) : ckE l = 0 ↔ RP l := by
  unfold ckE
  constructor
  · intro h
    split at h
    · omega
    · split at h
      · omega
      · split at h
        · omega
        · split at h
          · omega
          · split at h
            · omega
            · split at h
              · omega
              · rename_i g1 g2 g3 g4 g5 g6
                have g3' : l.any ptOut = false := by simpa using g3
                have g5' : l.any ptCl = false := by simpa using g5
                have g4' : adv l (l.length - 1) = true ∧ (gX l 0 == 0) = true := by simpa using g4
                have o : ∀ i, i < l.length → (0 ≤ gX l i ∧ gX l i ≤ 100000) ∧ 0 ≤ gR l i ∧ gR l i ≤ 100000 := fun i hi => by
                  have := not_any g3' hi
                  simp only [ptOut, Bool.not_eq_false', Bool.and_eq_true, lenB_iff] at this
                  exact this
                refine ⟨by omega, by omega, fun i hi => (o i hi).1, fun i hi => ?_, by simpa using g4'.2, fun i hi => (adv_iff _ _).1 g4'.1 i (by omega), fun i j h1 h2 h3 => ?_⟩
                · have := not_any g5' hi
                  have e : gR l i ≠ 0 := by
                    have t : (gR l i == 0) = false := this
                    simpa using t
                  have := (o i hi).2
                  omega
                · by_cases e : gR l j < gR l (j + 1)
                  · by_cases hij : i = j
                    · subst hij; omega
                    · exact absurd ((swl_iff _ _).2 ⟨i, j, by omega, by omega, h3, e⟩) g6
                  · omega
  · intro h
    have g3 : l.any ptOut = false := any_not fun i hi => by
      have a := (lenB_iff _).2 (h.bx i hi)
      have b := h.br i hi
      have b2 := (lenB_iff (gR l i)).2 (by omega)
      show (!(lenB (gX l i) && lenB (gR l i))) = false
      rw [a, b2]; rfl
    have g5 : l.any ptCl = false := any_not fun i hi => by
      have b := h.br i hi
      show (gR l i == 0) = false
      rw [beq_eq_false_iff_ne]; omega
    have g6 : ¬ swl l (l.length - 1) = true := fun hs => by
      obtain ⟨i, j, h1, h2, h3, h4⟩ := (swl_iff _ _).1 hs
      have := h.ns i j (by omega) (by omega) h3
      omega
    have g4 : (adv l (l.length - 1) && (gX l 0 == 0)) = true := by
      rw [Bool.and_eq_true]
      exact ⟨(adv_iff _ _).2 fun i hi => h.asc i (by omega), by rw [h.x0]; rfl⟩
    rw [if_neg (by have := h.n0; omega), if_neg (by have := h.n1; omega), if_neg (by rw [g3]; simp), if_neg (by rw [g4]; simp), if_neg (by rw [g5]; simp), if_neg g6]

/-! ### the bung -/
def bg (l : List (Int × Int)) : Nat → Nat
  | 0 => 0
  | k + 1 => if gR l (bg l k) < gR l k then k else bg l k
theorem bg_lt (l : List (Int × Int)) (k : Nat) : bg l k = 0 ∨ bg l k < k := by
  induction k with
  | zero => exact .inl rfl
  | succ k ih =>
    unfold bg
    split
    · right; omega
    · omega
theorem bg_max (l : List (Int × Int)) (k : Nat) : ∀ i, i < k → gR l i ≤ gR l (bg l k) := by
  induction k with
  | zero => intro i hi; omega
  | succ k ih =>
    intro i hi
    unfold bg
    by_cases h : gR l (bg l k) < gR l k
    · rw [if_pos h]
      by_cases e : i = k
      · rw [e]; exact Int.le_refl _
      · have := ih i (by omega); omega
    · rw [if_neg h]
      by_cases e : i = k
      · rw [e]; omega
      · exact ih i (by omega)
/-- what Length and Bung return -/
def lgQ (l : List (Int × Int)) : Int := if ckE l = 0 then gX l (l.length - 1) else 0
def buQ (l : List (Int × Int)) : Int := if ckE l = 0 then (bg l l.length : Int) else 0

/-! ### the piece that reaches to x -/
structure IsPc (l : List (Int × Int)) (x : Int) (i : Nat) : Prop where
  h1 : 1 ≤ i
  h2 : i < l.length
  h3 : x ≤ gX l i
  h4 : ∀ j, 1 ≤ j → j < i → gX l j < x
theorem IsPc.one {l : List (Int × Int)} {x : Int} {i j : Nat} (a : IsPc l x i) (b : IsPc l x j) : i = j := by
  rcases Nat.lt_trichotomy i j with h | h | h
  · have := b.h4 i a.h1 h; have := a.h3; omega
  · exact h
  · have := a.h4 j b.h1 h; have := b.h3; omega
theorem pc_ex {l : List (Int × Int)} {x : Int} (n0 : 2 ≤ l.length) (h : x ≤ gX l (l.length - 1)) : ∃ i, IsPc l x i := by
  suffices ∀ k, 1 ≤ k → k < l.length → x ≤ gX l k → ∃ i, IsPc l x i from this (l.length - 1) (by omega) (by omega) h
  intro k
  induction k with
  | zero => intro h; omega
  | succ k ih =>
    intro _ h2 h3
    by_cases hk : 1 ≤ k ∧ x ≤ gX l k
    · exact ih hk.1 (by omega) hk.2
    · by_cases he : ∃ j, 1 ≤ j ∧ j < k + 1 ∧ x ≤ gX l j
      · obtain ⟨j, j1, j2, j3⟩ := he
        have : ∀ m, ∀ j, j ≤ m → 1 ≤ j → j < l.length → x ≤ gX l j → ∃ i, IsPc l x i := by
          intro m
          induction m with
          | zero => intro j h1 h2; omega
          | succ m im =>
            intro j h1 h2 h3 h4
            by_cases hc : ∃ i, 1 ≤ i ∧ i < j ∧ x ≤ gX l i
            · obtain ⟨i, i1, i2, i3⟩ := hc
              exact im i (by omega) i1 (by omega) i3
            · exact ⟨j, h2, h3, h4, fun i i1 i2 => by
                by_cases hi : x ≤ gX l i
                · exact absurd ⟨i, i1, i2, hi⟩ hc
                · omega⟩
        exact this j j (Nat.le_refl _) j1 (by omega) j3
      · exact ⟨k + 1, by omega, h2, h3, fun j j1 j2 => by
          by_cases hj : x ≤ gX l j
          · exact absurd ⟨j, j1, j2, hj⟩ he
          · omega⟩
open Classical in
noncomputable def pc (l : List (Int × Int)) (x : Int) : Nat := if h : ∃ i, IsPc l x i then h.choose else 0
theorem pc_is {l : List (Int × Int)} {x : Int} (n0 : 2 ≤ l.length) (h : x ≤ gX l (l.length - 1)) : IsPc l x (pc l x) := by
  have he := pc_ex n0 h
  unfold pc
  rw [dif_pos he]
  exact he.choose_spec
theorem pc_of {l : List (Int × Int)} {x : Int} {i : Nat} (h : IsPc l x i) : pc l x = i := by
  have he : ∃ i, IsPc l x i := ⟨i, h⟩
  unfold pc
  rw [dif_pos he]
  exact he.choose_spec.one h
/-- the radius between two points, rounded down and up -/
def lnL (a p b q x : Int) : Int := lnN a p b q x / (b - a)
def lnH (a p b q x : Int) : Int := cdv (lnN a p b q x) (b - a)
noncomputable def rdL (l : List (Int × Int)) (x : Int) : Int := lnL (gX l (pc l x - 1)) (gR l (pc l x - 1)) (gX l (pc l x)) (gR l (pc l x)) x
noncomputable def rdH (l : List (Int × Int)) (x : Int) : Int := lnH (gX l (pc l x - 1)) (gR l (pc l x - 1)) (gX l (pc l x)) (gR l (pc l x)) x
/-- what place and At return -/
def plE (l : List (Int × Int)) (x : Int) : Int := if ckE l = 0 then (if x < 0 ∨ gX l (l.length - 1) < x then 2 else 0) else 1
noncomputable def atL (l : List (Int × Int)) (x : Int) : Int := if plE l x = 0 then rdL l x else 0
noncomputable def atH (l : List (Int × Int)) (x : Int) : Int := if plE l x = 0 then rdH l x else 0
end Go.Proofs.YtgjdopjolokaiaaGreat

/- Integers of the call's own. -/
namespace Go.Proofs.YtgjdopjolokaiaaGreat
open Go.RowKit

def OwnI (w : World) (B : Nat) (v : Value) (zs : List Int) : Prop := w.ownsRow B 3 1 v zs.length (zs.map (Value.int .i64))
theorem OwnI.alloc {w : World} {B : Nat} {v : Value} {zs : List Int} (h : OwnI w B v zs) (o : Obj) : OwnI (w.alloc o) B v zs := World.ownsRow.alloc h o
theorem OwnI.drew {w : World} {B : Nat} {v : Value} {zs : List Int} (h : OwnI w B v zs) : OwnI w.drew B v zs := h
theorem OwnI.nums {w : World} {B : Nat} {v : Value} {zs : List Int} (h : OwnI w B v zs) : Nums w v zs := nums_of_own h
theorem OwnI.lit (w : World) (B : Nat) (x : Int) (hB : B ≤ w.heap.size) : OwnI (w.alloc (.cells #[.int .i64 x] 3)) B (.slice (some ⟨w.heap.size, 0, none⟩) 1 1) [x] := by
  show World.ownsRow _ _ _ _ _ 1 _
  exact
  ⟨rfl, .inr ⟨w.heap.size, 1, #[.int .i64 x], rfl, hB, by show (w.heap.push _)[w.heap.size]? = _; exact Array.getElem?_push_size, by omega, by unfold maxLen; omega, rfl, rfl⟩⟩
theorem OwnI.nil (w : World) (B : Nat) : OwnI w B (.slice none 0 0) [] := ⟨rfl, .inl ⟨rfl, rfl⟩⟩
theorem OwnI.push {w' : World} {B n : Nat} {v' : Value} {zs : List Int} {x : Int} (hn : n = zs.length) (h : w'.ownsRow B 3 1 v' (n + 1) (zs.map (Value.int .i64) ++ [.int .i64 x])) : OwnI w' B v' (zs ++ [x]) := by
  subst hn
  unfold OwnI
  rw [List.length_append, List.map_append]
  exact h
/-- the last of them, and where they lie -/
theorem OwnI.form {w : World} {B : Nat} {v : Value} {zs : List Int} (h : OwnI w B v zs) (h0 : 0 < zs.length) : ∃ g cap, v = .slice (some ⟨g, 0, none⟩) zs.length cap ∧ B ≤ g ∧ g < w.heap.size ∧ zs.length ≤ cap ∧ cap ≤ 9223372036854775807 ∧ ∀ j, j < zs.length → w.cell? ⟨g, j, none⟩ = some (.int .i64 (zs.getD j 0)) := by
  have hlt := fun j hj => World.ownsRow.lt h j hj
  obtain ⟨a, cap, e, hc, hh⟩ := h.nums
  rcases hh with hh | ⟨b, off, rfl, hb, hcell⟩
  · omega
  · obtain ⟨_, h2⟩ := h
    rcases h2 with ⟨h3, _⟩ | ⟨g, cap', cur, h3, hg, _⟩
    · rw [h3] at e; simp at e
    · rw [h3] at e
      simp only [Value.slice.injEq, Option.some.injEq, Addr.mk.injEq, and_true, true_and] at e
      obtain ⟨⟨rfl, rfl⟩, rfl⟩ := e
      exact ⟨g, cap', h3, hg, hb, hc.1, hc.2, fun j hj => by have := hcell j hj; rwa [Nat.zero_add] at this⟩
/-! ### places of m-fold slices -/
def plS (out : List Int) (x : Int) : List Int := if out.getD (out.length - 1) 0 < x then out ++ [x] else out
def plK (p q m : Int) (out : List Int) : Nat → List Int
  | 0 => out
  | k + 1 => plS (plK p q m out k) (p + ((k : Int) + 1) * (q - p) / m)
def plO (l : List (Int × Int)) (m : Nat) : Nat → List Int
  | 0 => [0]
  | i + 1 => plK (gX l i) (gX l (i + 1)) m (plO l m i) m
theorem plS_len (out : List Int) (x : Int) : out.length ≤ (plS out x).length ∧ (plS out x).length ≤ out.length + 1 := by
  unfold plS
  split
  · rw [List.length_append]; simp
  · omega
theorem plK_len (p q m : Int) (out : List Int) (k : Nat) : out.length ≤ (plK p q m out k).length ∧ (plK p q m out k).length ≤ out.length + k := by
  induction k with
  | zero => exact ⟨Nat.le_refl _, Nat.le_refl _⟩
  | succ k ih =>
    have := plS_len (plK p q m out k) (p + ((k : Int) + 1) * (q - p) / m)
    show out.length ≤ (plS _ _).length ∧ (plS _ _).length ≤ _
    omega
theorem plO_len (l : List (Int × Int)) (m i : Nat) : 1 ≤ (plO l m i).length ∧ (plO l m i).length ≤ 1 + i * m := by
  induction i with
  | zero => simp [plO]
  | succ i ih =>
    have := plK_len (gX l i) (gX l (i + 1)) m (plO l m i) m
    show 1 ≤ (plK _ _ _ _ m).length ∧ (plK _ _ _ _ m).length ≤ _
    rw [Nat.succ_mul]
    omega
end Go.Proofs.YtgjdopjolokaiaaGreat

/- Plain facts: a piece of a right profile. -/
namespace Go.Proofs.YtgjdopjolokaiaaGreat

/-- a piece of a right profile, at a place of it -/
theorem pc_bd {l : List (Int × Int)} {x : Int} {i : Nat} (h : RP l) (x0 : 0 ≤ x) (hi : IsPc l x i) :
    1 ≤ i ∧ i < l.length ∧ (0 ≤ gX l (i - 1) ∧ gX l (i - 1) < gX l i ∧ gX l i ≤ 100000) ∧ (1 ≤ gR l (i - 1) ∧ gR l (i - 1) ≤ 100000) ∧ (1 ≤ gR l i ∧ gR l i ≤ 100000) ∧ gX l (i - 1) ≤ x ∧ x ≤ gX l i := by
  have h1 := hi.h1
  have h2 := hi.h2
  have b0 := h.bx (i - 1) (by omega)
  have b1 := h.bx i h2
  have a := h.asc (i - 1) (by omega)
  rw [show i - 1 + 1 = i by omega] at a
  refine ⟨h1, h2, ⟨b0.1, a, b1.2⟩, h.br _ (by omega), h.br _ h2, ?_, hi.h3⟩
  by_cases e : i = 1
  · subst e; have := h.x0; show gX l 0 ≤ x; omega
  · have := hi.h4 (i - 1) (by omega) (by omega)
    omega
end Go.Proofs.YtgjdopjolokaiaaGreat

/- Plain facts of the statements of layer 8. -/
namespace Go.Proofs.YtgjdopjolokaiaaGreat

theorem gX_lt {l : List (Int × Int)} (h : RP l) {i j : Nat} (hij : i < j) (hj : j < l.length) : gX l i < gX l j := by
  induction j with
  | zero => omega
  | succ j ih =>
    have a := h.asc j hj
    by_cases e : i = j
    · rw [e]; exact a
    · have := ih (by omega) (by omega); omega
theorem gX_le {l : List (Int × Int)} (h : RP l) {i j : Nat} (hij : i ≤ j) (hj : j < l.length) : gX l i ≤ gX l j := by
  by_cases e : i = j
  · rw [e]; exact Int.le_refl _
  · have := gX_lt h (i := i) (j := j) (by omega) hj; omega
/-- the radius at a point -/
theorem rd_at {l : List (Int × Int)} (h : RP l) {j : Nat} (hj : j < l.length) : rdL l (gX l j) = gR l j ∧ rdH l (gX l j) = gR l j := by
  have n0 := h.n0
  by_cases e : j = 0
  · subst e
    have e1 : pc l (gX l 0) = 1 := pc_of ⟨by omega, by omega, gX_le h (by omega) (by omega), fun k k1 k2 => by omega⟩
    have a : gX l 0 < gX l 1 := h.asc 0 (by omega)
    unfold rdL rdH lnL lnH
    rw [e1]
    show lnN (gX l 0) (gR l 0) (gX l 1) (gR l 1) (gX l 0) / (gX l 1 - gX l 0) = gR l 0 ∧ cdv (lnN (gX l 0) (gR l 0) (gX l 1) (gR l 1) (gX l 0)) (gX l 1 - gX l 0) = gR l 0
    rw [lnN_left]
    exact ⟨fl_int _ _ (by omega), cl_int _ _ (by omega)⟩
  · have e1 : pc l (gX l j) = j := pc_of ⟨by omega, hj, Int.le_refl _, fun k k1 k2 => gX_lt h k2 hj⟩
    have a := gX_lt h (i := j - 1) (j := j) (by omega) hj
    unfold rdL rdH lnL lnH
    rw [e1, lnN_right]
    exact ⟨fl_int _ _ (by omega), cl_int _ _ (by omega)⟩
/-- bounds of the radius by the piece's ends -/
theorem rd_bd {l : List (Int × Int)} {x : Int} (h : RP l) (x0 : 0 ≤ x) (x1 : x ≤ gX l (l.length - 1)) :
    min (gR l (pc l x - 1)) (gR l (pc l x)) ≤ rdL l x ∧ rdL l x ≤ rdH l x ∧ rdH l x ≤ rdL l x + 1 ∧ rdH l x ≤ max (gR l (pc l x - 1)) (gR l (pc l x)) := by
  have hi := pc_is h.n0 x1
  obtain ⟨_, _, ⟨b0, b1, b2⟩, ⟨c0, c1⟩, ⟨d0, d1⟩, g0, g1⟩ := pc_bd h x0 hi
  have bt := ln_between (p := gR l (pc l x - 1)) (q := gR l (pc l x)) b1 g0 g1
  have fc := fl_cl (lnN (gX l (pc l x - 1)) (gR l (pc l x - 1)) (gX l (pc l x)) (gR l (pc l x)) x) (gX l (pc l x) - gX l (pc l x - 1)) (by omega)
  unfold rdL rdH lnL lnH
  omega
theorem pc_mono {l : List (Int × Int)} {u v : Int} (h : RP l) (uv : u ≤ v) (x1 : v ≤ gX l (l.length - 1)) : pc l u ≤ pc l v := by
  have a := pc_is h.n0 (show u ≤ gX l (l.length - 1) by omega)
  have b := pc_is h.n0 x1
  rcases Nat.lt_or_ge (pc l v) (pc l u) with g | g
  · have := a.h4 _ b.h1 g
    have := b.h3
    omega
  · exact g
theorem chain_up {l : List (Int × Int)} {i : Nat} (hup : ∀ j, j < i → gR l j ≤ gR l (j + 1)) {s t : Nat} (hst : s ≤ t) (ht : t ≤ i) : gR l s ≤ gR l t := by
  induction t with
  | zero => obtain rfl : s = 0 := by omega
            exact Int.le_refl _
  | succ t ih =>
    by_cases e : s = t + 1
    · rw [e]; exact Int.le_refl _
    · have := ih (by omega) (by omega)
      have := hup t (by omega)
      omega
theorem chain_dn {l : List (Int × Int)} {i : Nat} (hdn : ∀ j, i ≤ j → j + 1 < l.length → gR l (j + 1) ≤ gR l j) {s t : Nat} (hs : i ≤ s) (hst : s ≤ t) (ht : t < l.length) : gR l t ≤ gR l s := by
  induction t with
  | zero => obtain rfl : s = 0 := by omega
            exact Int.le_refl _
  | succ t ih =>
    by_cases e : s = t + 1
    · rw [e]; exact Int.le_refl _
    · have := ih (by omega) (by omega)
      have := hdn t (by omega) ht
      omega
theorem rd_up {l : List (Int × Int)} {i : Nat} {u v : Int} (h : RP l) (hi : i < l.length) (hup : ∀ j, j < i → gR l j ≤ gR l (j + 1)) (u0 : 0 ≤ u) (uv : u ≤ v) (v1 : v ≤ gX l i) : rdL l u ≤ rdL l v ∧ rdH l u ≤ rdH l v := by
  have n0 := h.n0
  have hm := gX_le h (i := i) (j := l.length - 1) (by omega) (by omega)
  by_cases e0 : i = 0
  · subst e0
    have := h.x0
    obtain rfl : u = v := by omega
    exact ⟨Int.le_refl _, Int.le_refl _⟩
  · have b := pc_is n0 (show v ≤ gX l (l.length - 1) by omega)
    have ti : pc l v ≤ i := by
      rcases Nat.lt_or_ge i (pc l v) with g | g
      · have := b.h4 i (by omega) g; omega
      · exact g
    have st := pc_mono h uv (show v ≤ gX l (l.length - 1) by omega)
    have a := pc_is n0 (show u ≤ gX l (l.length - 1) by omega)
    have s1 := a.h1
    have ru := rd_bd h u0 (show u ≤ gX l (l.length - 1) by omega)
    have rv := rd_bd h (show 0 ≤ v by omega) (show v ≤ gX l (l.length - 1) by omega)
    by_cases e : pc l u = pc l v
    · have q := hup (pc l v - 1) (by omega)
      rw [show pc l v - 1 + 1 = pc l v by omega] at q
      have d := gX_lt h (i := pc l v - 1) (j := pc l v) (by omega) (by omega)
      have L := lnN_up (a := gX l (pc l v - 1)) (b := gX l (pc l v)) q uv
      unfold rdL rdH lnL lnH cdv
      rw [e]
      exact ⟨Int.ediv_le_ediv (by omega) L, Int.ediv_le_ediv (by omega) (by omega)⟩
    · have c1 := chain_up hup (s := pc l u - 1) (t := pc l u) (by omega) (by omega)
      have c2 := chain_up hup (s := pc l u) (t := pc l v - 1) (by omega) (by omega)
      have c3 := chain_up hup (s := pc l v - 1) (t := pc l v) (by omega) (by omega)
      omega
theorem rd_dn {l : List (Int × Int)} {i : Nat} {u v : Int} (h : RP l) (hi : i < l.length) (hdn : ∀ j, i ≤ j → j + 1 < l.length → gR l (j + 1) ≤ gR l j) (hmx : ∀ j, j < l.length → gR l j ≤ gR l i) (u0 : gX l i ≤ u) (uv : u ≤ v) (v1 : v ≤ gX l (l.length - 1)) : rdL l v ≤ rdL l u ∧ rdH l v ≤ rdH l u := by
  have n0 := h.n0
  have i0 := (h.bx i hi).1
  have rv := rd_bd h (show 0 ≤ v by omega) v1
  have b := pc_is n0 v1
  have bl := b.h2
  have m1 := hmx (pc l v) bl
  have m2 := hmx (pc l v - 1) (by omega)
  by_cases e0 : u = gX l i
  · have r := rd_at h hi
    rw [← e0] at r
    omega
  · have a := pc_is n0 (show u ≤ gX l (l.length - 1) by omega)
    have s1 := a.h1
    have al := a.h2
    have si : i < pc l u := by
      rcases Nat.lt_or_ge i (pc l u) with g | g
      · exact g
      · have := gX_le h g hi
        have := a.h3
        omega
    have st := pc_mono h uv v1
    have ru := rd_bd h (show 0 ≤ u by omega) (show u ≤ gX l (l.length - 1) by omega)
    by_cases e : pc l u = pc l v
    · have q := hdn (pc l v - 1) (by omega) (by omega)
      rw [show pc l v - 1 + 1 = pc l v by omega] at q
      have d := gX_lt h (i := pc l v - 1) (j := pc l v) (by omega) (by omega)
      have L := lnN_down (a := gX l (pc l v - 1)) (b := gX l (pc l v)) q uv
      unfold rdL rdH lnL lnH cdv
      rw [e]
      exact ⟨Int.ediv_le_ediv (by omega) L, Int.ediv_le_ediv (by omega) (by omega)⟩
    · have c1 := chain_dn hdn (s := pc l u - 1) (t := pc l u) (by omega) (by omega) (by omega)
      have c2 := chain_dn hdn (s := pc l u) (t := pc l v - 1) (by omega) (by omega) (by omega)
      have c3 := chain_dn hdn (s := pc l v - 1) (t := pc l v) (by omega) (by omega) (by omega)
      omega
/-- up to the bung the radii do not fall, and behind it they do not rise -/
theorem bg_sides {l : List (Int × Int)} (h : RP l) : bg l l.length < l.length ∧ (∀ j, j < l.length → gR l j ≤ gR l (bg l l.length)) ∧ (∀ j, j < bg l l.length → gR l j ≤ gR l (j + 1)) ∧ (∀ j, bg l l.length ≤ j → j + 1 < l.length → gR l (j + 1) ≤ gR l j) := by
  have n0 := h.n0
  have hl : bg l l.length < l.length := by have := bg_lt l l.length; omega
  have hm := bg_max l l.length
  refine ⟨hl, hm, fun j hj => ?_, fun j hj hj2 => ?_⟩
  · by_cases g : gR l (j + 1) < gR l j
    · have : ∀ t, j + 1 ≤ t → t < l.length → gR l t ≤ gR l (j + 1) := fun t h1 h2 => chain_dn (i := j) (fun k k1 k2 => h.ns j k k1 k2 g) (by omega) h1 h2
      have := this _ (by omega) hl
      have := hm j (by omega)
      omega
    · omega
  · by_cases g : gR l j < gR l (j + 1)
    · have hup : ∀ k, k < j → gR l k ≤ gR l (k + 1) := fun k hk => by
        by_cases g2 : gR l (k + 1) < gR l k
        · have := h.ns k j (by omega) hj2 g2; omega
        · omega
      have := chain_up hup (s := bg l l.length) (t := j) hj (Nat.le_refl _)
      have := hm (j + 1) hj2
      omega
    · omega
theorem least_end {l : List (Int × Int)} (h : RP l) {j : Nat} (hj : j < l.length) : min (gR l 0) (gR l (l.length - 1)) ≤ gR l j := by
  obtain ⟨b1, b2, b3, b4⟩ := bg_sides h
  by_cases g : j ≤ bg l l.length
  · have := chain_up b3 (s := 0) (t := j) (by omega) g
    omega
  · have := chain_dn b4 (s := j) (t := l.length - 1) (by omega) (by omega) (by omega)
    omega
theorem bulge_facts {l : List (Int × Int)} {u v : Int} (h : RP l) (u0 : 0 ≤ u) (uv : u ≤ v) (v1 : v ≤ gX l (l.length - 1)) :
    rdL l u ≤ rdH l u ∧ rdH l u - rdL l u ≤ 1 ∧ rdH l u ≤ gR l (bg l l.length) ∧ min (gR l 0) (gR l (l.length - 1)) ≤ rdL l u ∧ (v ≤ gX l (bg l l.length) → rdL l u ≤ rdL l v ∧ rdH l u ≤ rdH l v) ∧ (gX l (bg l l.length) ≤ u → rdL l v ≤ rdL l u ∧ rdH l v ≤ rdH l u) := by
  obtain ⟨b1, b2, b3, b4⟩ := bg_sides h
  have ru := rd_bd h u0 (show u ≤ gX l (l.length - 1) by omega)
  have a := pc_is h.n0 (show u ≤ gX l (l.length - 1) by omega)
  have s1 := a.h1
  have s2 := a.h2
  have m1 := b2 (pc l u) s2
  have m2 := b2 (pc l u - 1) (by omega)
  have e1 := least_end h s2
  have e2 := least_end h (j := pc l u - 1) (by omega)
  refine ⟨ru.2.1, by omega, by omega, by omega, fun g => rd_up h b1 b3 u0 uv g, fun g => rd_dn h b1 b4 b2 g uv v1⟩
theorem at_none {l : List (Int × Int)} {x : Int} (h : plE l x ≠ 0) : atL l x = 0 ∧ atH l x = 0 := by
  unfold atL atH; rw [if_neg h, if_neg h]; exact ⟨rfl, rfl⟩
theorem at_some {l : List (Int × Int)} {x : Int} (h : plE l x = 0) : atL l x = rdL l x ∧ atH l x = rdH l x := by
  unfold atL atH; rw [if_pos h, if_pos h]; exact ⟨rfl, rfl⟩
end Go.Proofs.YtgjdopjolokaiaaGreat

/- Plain facts of sums of frustums, and of the bounds of a space. No program stands in this text. -/
namespace Go.Proofs.YtgjdopjolokaiaaGreat

/-- what a frustum has between its radii -/
def sq3 (r s : Int) : Int := r * r + r * s + s * s
theorem sq3_mono {r s p q : Int} (r0 : 0 ≤ r) (s0 : 0 ≤ s) (hr : r ≤ p) (hs : s ≤ q) : sq3 r s ≤ sq3 p q := by
  have a := Int.mul_le_mul hr hr r0 (by omega)
  have b := Int.mul_le_mul hr hs s0 (by omega)
  have c := Int.mul_le_mul hs hs s0 (by omega)
  unfold sq3; omega
theorem sq3_less {r s p q : Int} (r0 : 0 ≤ r) (s0 : 0 ≤ s) (hr : r < p) (hs : s ≤ q) : sq3 r s < sq3 p q := by
  have a : r * r < p * p := by
    have := Int.mul_le_mul (show r ≤ p by omega) (show r ≤ p by omega) r0 (by omega)
    have e : p * p = r * p + (p - r) * p := by grind
    have e2 := Int.mul_le_mul (show r ≤ r from Int.le_refl r) (show r ≤ p by omega) r0 r0
    have e3 := Int.mul_pos (show 0 < p - r by omega) (show 0 < p by omega)
    omega
  have b := Int.mul_le_mul (show r ≤ p by omega) hs s0 (by omega)
  have c := Int.mul_le_mul hs hs s0 (by omega)
  unfold sq3; omega
theorem sq3_same (r : Int) : sq3 r r = 3 * r * r := by unfold sq3; grind
theorem sq3_turn (r s : Int) : sq3 r s = sq3 s r := by unfold sq3; grind
theorem sq3_bd {r s : Int} (hr : 1 ≤ r ∧ r ≤ 100000) (hs : 1 ≤ s ∧ s ≤ 100000) : 3 ≤ sq3 r s ∧ sq3 r s ≤ 30000000000 := by
  have a := sq3_mono (show (0 : Int) ≤ 1 by omega) (show (0 : Int) ≤ 1 by omega) hr.1 hs.1
  have b := sq3_mono (show (0 : Int) ≤ r by omega) (show (0 : Int) ≤ s by omega) hr.2 hs.2
  have e1 : sq3 1 1 = 3 := by decide
  have e2 : sq3 100000 100000 = 30000000000 := by decide
  omega
/-- the sum of the first k frustums -/
def fr (l : List (Int × Int)) : Nat → Int
  | 0 => 0
  | k + 1 => fr l k + (gX l (k + 1) - gX l k) * sq3 (gR l k) (gR l (k + 1))
theorem fr_succ (l : List (Int × Int)) (k : Nat) : fr l (k + 1) = fr l k + (gX l (k + 1) - gX l k) * sq3 (gR l k) (gR l (k + 1)) := rfl
/-- the sum of frustums -/
def frS (l : List (Int × Int)) : Int := fr l (l.length - 1)
theorem fr_between {l : List (Int × Int)} (h : RP l) {a b : Int} (a0 : 0 ≤ a) (ha : ∀ j, j < l.length → a ≤ gR l j) (hb : ∀ j, j < l.length → gR l j ≤ b) (k : Nat) (hk : k < l.length) :
    gX l k * (3 * a * a) ≤ fr l k ∧ fr l k ≤ gX l k * (3 * b * b) := by
  induction k with
  | zero => rw [h.x0]; simp [fr]
  | succ k ih =>
    have ih := ih (by omega)
    have d := h.asc k hk
    have p0 := h.br k (by omega)
    have q0 := h.br (k + 1) hk
    have m1 := sq3_mono a0 a0 (ha k (by omega)) (ha (k + 1) hk)
    have m2 := sq3_mono (show 0 ≤ gR l k by omega) (show 0 ≤ gR l (k + 1) by omega) (hb k (by omega)) (hb (k + 1) hk)
    rw [sq3_same] at m1 m2
    have t1 := Int.mul_le_mul_of_nonneg_left m1 (show 0 ≤ gX l (k + 1) - gX l k by omega)
    have t2 := Int.mul_le_mul_of_nonneg_left m2 (show 0 ≤ gX l (k + 1) - gX l k by omega)
    have e1 : gX l (k + 1) * (3 * a * a) = gX l k * (3 * a * a) + (gX l (k + 1) - gX l k) * (3 * a * a) := by grind
    have e2 : gX l (k + 1) * (3 * b * b) = gX l k * (3 * b * b) + (gX l (k + 1) - gX l k) * (3 * b * b) := by grind
    unfold fr
    omega
theorem fr_bd {l : List (Int × Int)} (h : RP l) (k : Nat) (hk : k < l.length) : 0 ≤ fr l k ∧ fr l k ≤ 3000000000000000 := by
  have f := fr_between h (a := 1) (b := 100000) (by omega) (fun j hj => (h.br j hj).1) (fun j hj => (h.br j hj).2) k hk
  have x := h.bx k hk
  omega
theorem frS_bd {l : List (Int × Int)} (h : RP l) : 0 ≤ frS l ∧ frS l ≤ 3000000000000000 := fr_bd h _ (by have := h.n0; omega)
/-- one frustum alone -/
theorem frP_bd {l : List (Int × Int)} (h : RP l) (k : Nat) (hk : k + 1 < l.length) : 0 ≤ (gX l (k + 1) - gX l k) * sq3 (gR l k) (gR l (k + 1)) ∧ (gX l (k + 1) - gX l k) * sq3 (gR l k) (gR l (k + 1)) ≤ 3000000000000000 := by
  have a := fr_bd h k (by omega)
  have b := fr_bd h (k + 1) hk
  have d := h.asc k hk
  have s := sq3_bd (h.br k (by omega)) (h.br (k + 1) hk)
  have t := Int.mul_nonneg (show 0 ≤ gX l (k + 1) - gX l k by omega) (show 0 ≤ sq3 (gR l k) (gR l (k + 1)) by omega)
  unfold fr at b
  omega

/-! ### bounds of the space -/
def cbL (n : Int) : Int := n * 333 / 318
def cbH (n : Int) : Int := (n * 355 + 338) / 339
def cvL (n : Int) : Int := cbL n / 1000000
def cvH (n : Int) : Int := (cbH n + 999999) / 1000000
theorem cb_mono {m n : Int} (h : m ≤ n) : cbL m ≤ cbL n ∧ cbH m ≤ cbH n := by unfold cbL cbH; omega
theorem cb_narrow {n : Int} (h : 0 ≤ n) : 0 ≤ cbL n ∧ cbL n ≤ cbH n ∧ (cbH n - cbL n ≤ 2 ∨ (cbH n - cbL n - 2) * 30000 < cbH n) := by unfold cbL cbH; omega
theorem cb_bd {n : Int} (h : 0 ≤ n ∧ n ≤ 3000000000000000) : 0 ≤ cbL n ∧ cbL n ≤ cbH n ∧ cbH n ≤ 3200000000000000 := by unfold cbL cbH; omega
theorem cv_bd {n : Int} (h : 0 ≤ n ∧ n ≤ 3000000000000000) : 0 ≤ cvL n ∧ cvL n ≤ cvH n ∧ cvH n ≤ 3200000000 := by unfold cvL cvH cbL cbH; omega
/-- the answer whether D agrees with bounds of a volume, with t thousandths -/
def agA (L H D t : Int) : Int :=
  if (1000 - t) * D ≤ 1000 * L ∧ 1000 * L ≤ (1000 + t) * D ∧ (1000 - t) * D ≤ 1000 * H ∧ 1000 * H ≤ (1000 + t) * D then 1
  else if (1000 + t) * D < 1000 * L ∨ 1000 * H < (1000 - t) * D then 2 else 3
theorem ag_more {L H D t m : Int} (d0 : 0 ≤ D) (m0 : 0 ≤ m) : (agA L H D t = 1 → agA L H D (t + m) = 1) ∧ (agA L H D t ≠ 2 → agA L H D (t + m) ≠ 2) := by
  have k := Int.mul_nonneg m0 d0
  have e1 : (1000 - (t + m)) * D = (1000 - t) * D - m * D := by grind
  have e2 : (1000 + (t + m)) * D = (1000 + t) * D + m * D := by grind
  unfold agA
  rw [e1, e2]
  generalize (1000 - t) * D = u at *
  generalize (1000 + t) * D = v at *
  generalize m * D = z at *
  constructor
  · intro h
    split at h
    · rw [if_pos (by omega)]
    · split at h <;> omega
  · intro h
    split at h
    · rw [if_pos (by omega)]; omega
    · split at h
      · omega
      · split
        · omega
        · rw [if_neg (by omega)]; omega
theorem ag_high {L H t : Int} (h : L ≤ H) (h0 : 0 ≤ H) (t0 : 0 ≤ t) : agA L H H t ≠ 2 := by
  have k := Int.mul_nonneg t0 h0
  have e1 : (1000 - t) * H = 1000 * H - t * H := by grind
  have e2 : (1000 + t) * H = 1000 * H + t * H := by grind
  unfold agA
  rw [e1, e2]
  split
  · omega
  · rw [if_neg (by omega)]; omega
end Go.Proofs.YtgjdopjolokaiaaGreat

/- Plain facts of layer 11: slices of a cask, their radii, sums over slices and strips. No program stands in this text. -/
namespace Go.Proofs.YtgjdopjolokaiaaGreat

/-! ### a place on a given piece -/
theorem rd_piece {l : List (Int × Int)} (h : RP l) {k : Nat} (hk : k + 1 < l.length) {x : Int} (x0 : gX l k ≤ x) (x1 : x ≤ gX l (k + 1)) :
    rdL l x = lnL (gX l k) (gR l k) (gX l (k + 1)) (gR l (k + 1)) x ∧ rdH l x = lnH (gX l k) (gR l k) (gX l (k + 1)) (gR l (k + 1)) x := by
  have a := h.asc k hk
  by_cases e : x = gX l k
  · subst e
    obtain ⟨r1, r2⟩ := rd_at h (j := k) (by omega)
    rw [r1, r2]
    unfold lnL lnH
    rw [lnN_left, fl_int _ _ (by omega), cl_int _ _ (by omega)]
    exact ⟨rfl, rfl⟩
  · have hp : IsPc l x (k + 1) := ⟨by omega, hk, x1, fun j j1 j2 => by
      have := gX_le h (i := j) (j := k) (by omega) (by omega)
      omega⟩
    have := pc_of hp
    unfold rdL rdH
    rw [this, Nat.add_sub_cancel]
    exact ⟨rfl, rfl⟩
/-- the lesser radius of a slice, and the greater one -/
noncomputable def slL (l : List (Int × Int)) (a b : Int) : Int := min (rdL l a) (rdL l b)
noncomputable def slH (l : List (Int × Int)) (a b : Int) : Int := max (rdH l a) (rdH l b)
/-- right places -/
structure PlR (l : List (Int × Int)) (ps : List Int) : Prop where
  n0 : 2 ≤ ps.length
  n1 : ps.length ≤ 128
  z : ps.getD 0 0 = 0
  e : ps.getD (ps.length - 1) 0 = gX l (l.length - 1)
  asc : ∀ i, i + 1 < ps.length → ps.getD i 0 < ps.getD (i + 1) 0
  has : ∀ j, j < l.length → ∃ i, i < ps.length ∧ ps.getD i 0 = gX l j
theorem asc_lt {ps : List Int} (h : ∀ i, i + 1 < ps.length → ps.getD i 0 < ps.getD (i + 1) 0) {i j : Nat} (hij : i < j) (hj : j < ps.length) : ps.getD i 0 < ps.getD j 0 := by
  induction j with
  | zero => omega
  | succ j ih =>
    have := h j hj
    by_cases e : i = j
    · subst e; exact this
    · have := ih (by omega) (by omega); omega
theorem asc_le {ps : List Int} (h : ∀ i, i + 1 < ps.length → ps.getD i 0 < ps.getD (i + 1) 0) {i j : Nat} (hij : i ≤ j) (hj : j < ps.length) : ps.getD i 0 ≤ ps.getD j 0 := by
  by_cases e : i = j
  · subst e; exact Int.le_refl _
  · have := asc_lt h (show i < j by omega) hj; omega
theorem PlR.bd {l : List (Int × Int)} {ps : List Int} (h : PlR l ps) {i : Nat} (hi : i < ps.length) : 0 ≤ ps.getD i 0 ∧ ps.getD i 0 ≤ gX l (l.length - 1) := by
  have a := asc_le h.asc (Nat.zero_le i) hi
  have b := asc_le h.asc (i := i) (j := ps.length - 1) (by omega) (by have := h.n0; omega)
  rw [h.z] at a
  rw [h.e] at b
  exact ⟨a, b⟩
/-- a slice lies on one piece -/
theorem PlR.piece {l : List (Int × Int)} {ps : List Int} (hR : RP l) (h : PlR l ps) {i : Nat} (hi : i + 1 < ps.length) : ∃ k, k + 1 < l.length ∧ gX l k ≤ ps.getD i 0 ∧ ps.getD (i + 1) 0 ≤ gX l (k + 1) := by
  have lt := h.asc i hi
  have b1 := h.bd hi
  have p := pc_is hR.n0 (show ps.getD (i + 1) 0 ≤ gX l (l.length - 1) from b1.2)
  have p1 := p.h1
  refine ⟨pc l (ps.getD (i + 1) 0) - 1, by have := p.h2; omega, ?_, by rw [Nat.sub_add_cancel p1]; exact p.h3⟩
  generalize pc l (ps.getD (i + 1) 0) = m at *
  by_cases hm : m = 1
  · subst hm
    have := hR.x0
    have b0 := h.bd (show i < ps.length by omega)
    show gX l 0 ≤ _
    omega
  · have q := p.h4 (m - 1) (by omega) (by omega)
    obtain ⟨t, ht, et⟩ := h.has (m - 1) (by have := p.h2; omega)
    by_cases g : t ≤ i
    · have := asc_le h.asc g (show i < ps.length by omega); omega
    · have := asc_le h.asc (show i + 1 ≤ t by omega) ht; omega
theorem sl_bd {l : List (Int × Int)} (h : RP l) {a b : Int} (a0 : 0 ≤ a) (ab : a ≤ b) (b1 : b ≤ gX l (l.length - 1)) : 1 ≤ slL l a b ∧ slL l a b ≤ slH l a b ∧ slH l a b ≤ gR l (bg l l.length) ∧ gR l (bg l l.length) ≤ 100000 := by
  obtain ⟨u1, u2, u3, u4, _, _⟩ := bulge_facts h a0 ab b1
  obtain ⟨v1, v2, v3, v4, _, _⟩ := bulge_facts h (show 0 ≤ b by omega) (Int.le_refl b) b1
  have hl : bg l l.length < l.length := by have := bg_lt l l.length; have := h.n0; omega
  have r := h.br _ hl
  have r0 := h.br 0 (by have := h.n0; omega)
  have r1 := h.br (l.length - 1) (by have := h.n0; omega)
  unfold slL slH
  omega
/-! ### the frustums lie between the cylinders -/
noncomputable def enL (l : List (Int × Int)) (ps : List Int) : Nat → Int
  | 0 => 0
  | k + 1 => enL l ps k + 3 * ((ps.getD (k + 1) 0 - ps.getD k 0) * (slL l (ps.getD k 0) (ps.getD (k + 1) 0) * slL l (ps.getD k 0) (ps.getD (k + 1) 0)))
noncomputable def enH (l : List (Int × Int)) (ps : List Int) : Nat → Int
  | 0 => 0
  | k + 1 => enH l ps k + 3 * ((ps.getD (k + 1) 0 - ps.getD k 0) * (slH l (ps.getD k 0) (ps.getD (k + 1) 0) * slH l (ps.getD k 0) (ps.getD (k + 1) 0)))
theorem sq3_low {m x y : Int} (m0 : 0 ≤ m) (hx : m ≤ x) (hy : m ≤ y) : 3 * (m * m) ≤ sq3 x y := by
  have := sq3_mono m0 m0 hx hy
  rw [sq3_same, Int.mul_assoc] at this
  exact this
theorem sq3_high {m x y : Int} (x0 : 0 ≤ x) (y0 : 0 ≤ y) (hx : x ≤ m) (hy : y ≤ m) : sq3 x y ≤ 3 * (m * m) := by
  have := sq3_mono x0 y0 hx hy
  rw [sq3_same, Int.mul_assoc] at this
  exact this
/-- up to a place on the piece k, times the square of the piece's length -/
structure EnAt (l : List (Int × Int)) (ps : List Int) (i k : Nat) : Prop where
  hk : k + 1 < l.length
  x0 : gX l k ≤ ps.getD i 0
  x1 : ps.getD i 0 ≤ gX l (k + 1)
  low : (gX l (k + 1) - gX l k) * (gX l (k + 1) - gX l k) * (enL l ps i - fr l k) ≤ (ps.getD i 0 - gX l k) * sq3 (gR l k * (gX l (k + 1) - gX l k)) (lnN (gX l k) (gR l k) (gX l (k + 1)) (gR l (k + 1)) (ps.getD i 0))
  high : (ps.getD i 0 - gX l k) * sq3 (gR l k * (gX l (k + 1) - gX l k)) (lnN (gX l k) (gR l k) (gX l (k + 1)) (gR l (k + 1)) (ps.getD i 0)) ≤ (gX l (k + 1) - gX l k) * (gX l (k + 1) - gX l k) * (enH l ps i - fr l k)
theorem sq3_scale (d p q : Int) : sq3 (p * d) (q * d) = d * d * sq3 p q := by unfold sq3; grind
theorem EnAt.whole {l : List (Int × Int)} {ps : List Int} {i k : Nat} (hR : RP l) (h : EnAt l ps i k) (e : ps.getD i 0 = gX l (k + 1)) : enL l ps i ≤ fr l (k + 1) ∧ fr l (k + 1) ≤ enH l ps i := by
  obtain ⟨hk, _, _, lo, hi⟩ := h
  rw [e, lnN_right, sq3_scale] at lo hi
  have a := hR.asc k hk
  rw [fr_succ]
  have d0 : 0 < gX l (k + 1) - gX l k := by omega
  generalize gX l (k + 1) - gX l k = d at *
  have e1 : d * (d * d * sq3 (gR l k) (gR l (k + 1))) = d * d * (d * sq3 (gR l k) (gR l (k + 1))) := by grind
  rw [e1] at lo hi
  have dd := Int.mul_pos d0 d0
  have l1 := Int.le_of_mul_le_mul_left lo dd
  have l2 := Int.le_of_mul_le_mul_left hi dd
  omega
theorem EnAt.step {l : List (Int × Int)} {ps : List Int} {i k : Nat} (hR : RP l) (hP : PlR l ps) (hi : i + 1 < ps.length) (h : EnAt l ps i k) (lt : ps.getD i 0 < gX l (k + 1)) : EnAt l ps (i + 1) k := by
  obtain ⟨hk, x0, x1, lo, hg⟩ := h
  have ascx := hP.asc i hi
  have y1 : ps.getD (i + 1) 0 ≤ gX l (k + 1) := by
    obtain ⟨t, ht, et⟩ := hP.has (k + 1) hk
    by_cases g : t ≤ i
    · have := asc_le hP.asc g (show i < ps.length by omega); omega
    · have := asc_le hP.asc (show i + 1 ≤ t by omega) ht; omega
  have a := hR.asc k hk
  obtain ⟨rx1, rx2⟩ := rd_piece hR hk x0 x1
  obtain ⟨ry1, ry2⟩ := rd_piece hR hk (x := ps.getD (i + 1) 0) (by omega) y1
  have r0 := hR.br k (by omega)
  have q0 := hR.br (k + 1) hk
  refine ⟨hk, by omega, y1, ?_, ?_⟩
  · have bx := sl_bd hR (a := ps.getD i 0) (b := ps.getD (i + 1) 0) (by have := hP.bd (show i < ps.length by omega); omega) (by omega) (by have := hP.bd hi; omega)
    show _ * (enL l ps i + 3 * _ - _) ≤ _
    unfold slL at bx ⊢
    rw [rx1, ry1] at bx ⊢
    unfold lnL at bx ⊢
    generalize hNx : lnN (gX l k) (gR l k) (gX l (k + 1)) (gR l (k + 1)) (ps.getD i 0) = nx at *
    generalize hNy : lnN (gX l k) (gR l k) (gX l (k + 1)) (gR l (k + 1)) (ps.getD (i + 1) 0) = ny at *
    have id : (ps.getD i 0 - gX l k) * sq3 (gR l k * (gX l (k + 1) - gX l k)) nx + (ps.getD (i + 1) 0 - ps.getD i 0) * sq3 nx ny = (ps.getD (i + 1) 0 - gX l k) * sq3 (gR l k * (gX l (k + 1) - gX l k)) ny := by
      subst hNx; subst hNy
      unfold sq3 lnN
      grind
    rw [← id]
    generalize hd : gX l (k + 1) - gX l k = d at *
    have d0 : 0 < d := by omega
    have f1 := (fl_iff nx d (nx / d) d0).1 (Int.le_refl _)
    have f2 := (fl_iff ny d (ny / d) d0).1 (Int.le_refl _)
    generalize hm : min (nx / d) (ny / d) = m at *
    have m0 : 0 ≤ m := by omega
    have g1 : m * d ≤ nx := by
      have := Int.mul_le_mul_of_nonneg_right (show m ≤ nx / d by omega) (show 0 ≤ d by omega); omega
    have g2 : m * d ≤ ny := by
      have := Int.mul_le_mul_of_nonneg_right (show m ≤ ny / d by omega) (show 0 ≤ d by omega); omega
    have s := sq3_low (Int.mul_nonneg m0 (show 0 ≤ d by omega)) g1 g2
    have s2 := Int.mul_le_mul_of_nonneg_left s (show 0 ≤ ps.getD (i + 1) 0 - ps.getD i 0 by omega)
    generalize ps.getD (i + 1) 0 - ps.getD i 0 = w at *
    have e : d * d * (enL l ps i + 3 * (w * (m * m)) - fr l k) = d * d * (enL l ps i - fr l k) + w * (3 * (m * d * (m * d))) := by grind
    rw [e]
    omega
  · show _ ≤ _ * (enH l ps i + 3 * _ - _)
    have bx := sl_bd hR (a := ps.getD i 0) (b := ps.getD (i + 1) 0) (by have := hP.bd (show i < ps.length by omega); omega) (by omega) (by have := hP.bd hi; omega)
    unfold slL slH at bx
    unfold slH
    rw [rx2, ry2] at bx ⊢
    rw [rx1, ry1] at bx
    unfold lnL lnH at bx
    unfold lnH
    generalize hNx : lnN (gX l k) (gR l k) (gX l (k + 1)) (gR l (k + 1)) (ps.getD i 0) = nx at *
    generalize hNy : lnN (gX l k) (gR l k) (gX l (k + 1)) (gR l (k + 1)) (ps.getD (i + 1) 0) = ny at *
    have id : (ps.getD i 0 - gX l k) * sq3 (gR l k * (gX l (k + 1) - gX l k)) nx + (ps.getD (i + 1) 0 - ps.getD i 0) * sq3 nx ny = (ps.getD (i + 1) 0 - gX l k) * sq3 (gR l k * (gX l (k + 1) - gX l k)) ny := by
      subst hNx; subst hNy
      unfold sq3 lnN
      grind
    rw [← id]
    generalize hd : gX l (k + 1) - gX l k = d at *
    have d0 : 0 < d := by omega
    have f1 := cl_ge nx d d0
    have f2 := cl_ge ny d d0
    have z1 := (fl_iff nx d 1 d0).1 (by omega)
    have z2 := (fl_iff ny d 1 d0).1 (by omega)
    generalize hm : max (cdv nx d) (cdv ny d) = m at *
    have g1 : nx ≤ m * d := by
      have := Int.mul_le_mul_of_nonneg_right (show cdv nx d ≤ m by omega) (show 0 ≤ d by omega); omega
    have g2 : ny ≤ m * d := by
      have := Int.mul_le_mul_of_nonneg_right (show cdv ny d ≤ m by omega) (show 0 ≤ d by omega); omega
    have s := sq3_high (by omega) (by omega) g1 g2
    have s2 := Int.mul_le_mul_of_nonneg_left s (show 0 ≤ ps.getD (i + 1) 0 - ps.getD i 0 by omega)
    generalize ps.getD (i + 1) 0 - ps.getD i 0 = w at *
    have e : d * d * (enH l ps i + 3 * (w * (m * m)) - fr l k) = d * d * (enH l ps i - fr l k) + w * (3 * (m * d * (m * d))) := by grind
    rw [e]
    omega
theorem en_at {l : List (Int × Int)} {ps : List Int} (hR : RP l) (hP : PlR l ps) (i : Nat) (hi : i < ps.length) : ∃ k, EnAt l ps i k := by
  induction i with
  | zero =>
    have n0 := hR.n0
    have a := hR.asc 0 (by omega)
    refine ⟨0, by omega, ?_, ?_, ?_, ?_⟩
    · rw [hP.z, hR.x0]; exact Int.le_refl _
    · rw [hP.z]; rw [hR.x0] at a; omega
    · rw [hP.z, hR.x0]; simp [enL, fr]
    · rw [hP.z, hR.x0]; simp [enH, fr]
  | succ i ih =>
    obtain ⟨k, h⟩ := ih (by omega)
    by_cases lt : ps.getD i 0 < gX l (k + 1)
    · exact ⟨k, h.step hR hP hi lt⟩
    · have e : ps.getD i 0 = gX l (k + 1) := by have := h.x1; omega
      obtain ⟨w1, w2⟩ := h.whole hR e
      have ascx := hP.asc i hi
      have b := hP.bd hi
      have hk2 : k + 1 + 1 < l.length := by
        have hk := h.hk
        by_cases g : k + 1 + 1 = l.length
        · rw [show l.length - 1 = k + 1 by omega] at b; omega
        · omega
      have a := hR.asc (k + 1) hk2
      have h2 : EnAt l ps i (k + 1) := by
        refine ⟨hk2, by omega, by omega, ?_, ?_⟩
        · rw [e, Int.sub_self, Int.zero_mul]
          exact Int.mul_nonpos_of_nonneg_of_nonpos (Int.mul_nonneg (by omega) (by omega)) (by omega)
        · rw [e, Int.sub_self, Int.zero_mul]
          exact Int.mul_nonneg (Int.mul_nonneg (by omega) (by omega)) (by omega)
      exact ⟨k + 1, h2.step hR hP hi (by omega)⟩
/-- the frustums lie between the cylinders of the slices -/
theorem en_whole {l : List (Int × Int)} {ps : List Int} (hR : RP l) (hP : PlR l ps) : enL l ps (ps.length - 1) ≤ frS l ∧ frS l ≤ enH l ps (ps.length - 1) := by
  obtain ⟨k, h⟩ := en_at hR hP (ps.length - 1) (by have := hP.n0; omega)
  have e := hP.e
  have hk := h.hk
  have n0 := hR.n0
  have : k + 1 = l.length - 1 := by
    by_cases g : k + 1 = l.length - 1
    · exact g
    · have := gX_lt hR (i := k + 1) (j := l.length - 1) (by omega) (by omega)
      have := h.x1
      omega
  have w := h.whole hR (by rw [e, this])
  rw [this] at w
  exact w
end Go.Proofs.YtgjdopjolokaiaaGreat

/- The reference of layer 11: places of m-fold slices. -/
namespace Go.Proofs.YtgjdopjolokaiaaGreat
open Go.RowKit

theorem cell_oneN (w : World) (x : Value) (T : TypeId) : ∀ j u, [x][j]? = some u → (w.alloc (.cells #[x] T)).cell? ((⟨w.heap.size, 0, none⟩ : Addr).add j) = some u := by
  intro j u hj
  match j, hj with
  | 0, hj => simp at hj; subst hj; simp [Addr.add, go_sem]
  | j + 1, hj => simp at hj
set_option maxRecDepth 100000 in
set_option maxHeartbeats 16000000 in
theorem rlyPl_some (b off n cap m : Nat) (l : List (Int × Int)) (w : World) (n0 : 2 ≤ n) (n1 : n ≤ 32) (m0 : 1 ≤ m) (m1 : m ≤ 64) (hn : Hid (n = l.length)) (hb : b < w.heap.size) (hR : Hid (RP l))
    (hc : Hid (∀ j, j < n → w.cell? ⟨b, off + j * 2, none⟩ = some (.int .i64 (gX l j)))) :
    Calls Tryz.prog 79 #[.slice (some ⟨b, off, none⟩) n cap, .int .i64 m] w fun e w' => ∃ v, e = .returned v ∧ Nums w' v (plO l m (n - 1)) ∧ Below w.heap.size w w' := by
  obtain ⟨i0, hi, hz0, hz1, hz2⟩ := info_parts info_int
  replace hi := Lib.hid hi
  replace hz0 := Lib.hid hz0
  replace hz1 := Lib.hid hz1
  replace hz2 := Lib.hid hz2
  go_enter Tryz.func79, Tryz.ntmps79
  go_wp2_with fail
  go_loopw [5, 6] (fun v ii wr => ∃ i : Nat, i + 1 ≤ n ∧ ii = .int .i64 ((i : Int) + 1) ∧ Hid (OwnI wr w.heap.size v (plO l m i)) ∧ Hid (Below w.heap.size w wr)) (fun _ ii _ => n - (intOf ii).toNat)
  case atStart => exact ⟨0, by omega, rfl, Lib.hid (OwnI.lit w _ 0 (Nat.le_refl _)), Lib.hid (bel_alloc (Below.refl _ _))⟩
  case round =>
    obtain ⟨i, hi1, rfl, hown, hB⟩ := hrel
    by_cases hlt : i + 1 < n
    · have d0 : wr.cell? ⟨b, off + i * 2, none⟩ = some (.int .i64 (gX l i)) := by rw [(bcell hB.out).1 _ _ hb]; exact hc.out i (by omega)
      have d1 : wr.cell? ⟨b, off + (i + 1) * 2, none⟩ = some (.int .i64 (gX l (i + 1))) := by rw [(bcell hB.out).1 _ _ hb]; exact hc.out (i + 1) hlt
      have bx0 := hR.out.bx i (by rw [← hn.out]; omega)
      have bx1 := hR.out.bx (i + 1) (by rw [← hn.out]; exact hlt)
      have as0 := hR.out.asc i (by rw [← hn.out]; exact hlt)
      have ln := plO_len l m i
      have li : i * m ≤ 31 * 64 := Nat.mul_le_mul (by omega) m1
      have PO : Hid (plO l m (i + 1) = plK (gX l i) (gX l (i + 1)) m (plO l m i) m) := Lib.hid rfl
      generalize plO l m i = out at *
      generalize gX l i = p at *
      generalize gX l (i + 1) = q at *
      have wj : IntKind.i64.wrap ((i : Int) + 1 - 1) = (i : Int) := by rw [wrap_in _ ⟨by omega, by omega⟩]; omega
      have wk : IntKind.i64.wrap (i : Int) = (i : Int) := wrap_in _ ⟨by omega, by omega⟩
      have l0 : (i : Int) < (n : Int) := by omega
      have l1 : (i : Int) + 1 < (n : Int) := by omega
      have l2 : i < n := by omega
      have l3 : 0 ≤ (i : Int) + 1 := by omega
      have l4 : ((i : Int) + 1).toNat = i + 1 := by omega
      go_wp2_with fail
      go_quiet (fail)
      replace hown : Hid (OwnI (wr.drewN nq) w.heap.size _ out) := Lib.hid (show OwnI wr w.heap.size _ out from hown.out)
      replace hB : Hid (Below w.heap.size w (wr.drewN nq)) := Lib.hid (bel_trans hB.out (bel_drewN _ _))
      clear d0 d1
      generalize wr.drewN nq = wq at *
      go_wp2_with fail
      go_loopw [5, 9] (fun v kk wr2 => ∃ k : Nat, k ≤ m ∧ kk = .int .i64 ((k : Int) + 1) ∧ Hid (OwnI wr2 w.heap.size v (plK p q m out k)) ∧ Hid (Below w.heap.size w wr2)) (fun _ kk _ => m + 1 - (intOf kk).toNat)
      case atStart => exact ⟨0, by omega, rfl, hown, hB⟩
      case round =>
        obtain ⟨k, hk, rfl, hown2, hB2⟩ := hrel
        by_cases hlk : k < m
        · have kl := plK_len p q m out k
          obtain ⟨g, cp, rfl, hg, hgs, hcp, hcp2, hgc⟩ := hown2.out.form (by omega)
          have PK : Hid (plK p q m out (k + 1) = plS (plK p q m out k) (p + ((k : Int) + 1) * (q - p) / m)) := Lib.hid rfl
          have mq : 0 ≤ ((k : Int) + 1) * (q - p) ∧ ((k : Int) + 1) * (q - p) ≤ 64 * 100000 := ⟨Int.mul_nonneg (by omega) (by omega), Int.mul_le_mul (by omega) (by omega) (by omega) (by omega)⟩
          have dq : 0 ≤ ((k : Int) + 1) * (q - p) / m ∧ ((k : Int) + 1) * (q - p) / m ≤ ((k : Int) + 1) * (q - p) := ⟨Int.ediv_nonneg mq.1 (by omega), Int.ediv_le_self _ mq.1⟩
          have wq1 : IntKind.i64.wrap (q - p) = q - p := wrap_in _ ⟨by omega, by omega⟩
          have wq2 : IntKind.i64.wrap (((k : Int) + 1) * (q - p)) = ((k : Int) + 1) * (q - p) := wrap_in _ ⟨by omega, by omega⟩
          obtain ⟨D, hD⟩ : ∃ D, D = ((k : Int) + 1) * (q - p) / m := ⟨_, rfl⟩
          obtain ⟨x, hx⟩ : ∃ x, x = p + D := ⟨_, rfl⟩
          have wq3 : IntKind.i64.wrap ((((k : Int) + 1) * (q - p)).tdiv m) = D := by rw [Int.tdiv_eq_ediv_of_nonneg mq.1, hD]; exact wrap_in _ ⟨by omega, by omega⟩
          rw [← hD] at dq PK
          have wq4 : IntKind.i64.wrap (p + D) = x := by rw [hx]; exact wrap_in _ ⟨by omega, by omega⟩
          rw [← hx] at PK
          replace hD := Lib.hid hD
          replace hx := Lib.hid hx
          have mz : ¬ (m : Int) = 0 := by omega
          have lm : (k : Int) + 1 ≤ (m : Int) := by omega
          obtain ⟨t, ht⟩ : ∃ t, (plK p q m out k).length = t + 1 := ⟨(plK p q m out k).length - 1, by omega⟩
          have gl : wr.cell? ⟨g, t, none⟩ = some (.int .i64 ((plK p q m out k).getD t 0)) := hgc t (by omega)
          have eS : Hid (plS (plK p q m out k) x = if (plK p q m out k).getD t 0 < x then plK p q m out k ++ [x] else plK p q m out k) := Lib.hid (by unfold plS; rw [ht, Nat.add_sub_cancel])
          rw [ht] at hown2 hcp ⊢
          have wt : IntKind.i64.wrap ((t : Int) + 1 - 1) = (t : Int) := by rw [wrap_in _ ⟨by omega, by omega⟩]; omega
          have wu : IntKind.i64.wrap (t : Int) = (t : Int) := wrap_in _ ⟨by omega, by omega⟩
          have tl : t + 1 ≤ 4000 := by omega
          replace ht := Lib.hid ht
          replace PK := Lib.hid (PK.out.trans eS.out)
          generalize (plK p q m out k).getD t 0 = y at *
          have CN := Lib.hid (cell_oneN wr (.int .i64 x) 3)
          have HS : Hid (w.heap.size ≤ (wr.alloc (.cells #[.int .i64 x] 3)).heap.size) := Lib.hid (Nat.le_trans hB2.out.size (bel_alloc (Below.refl _ _)).size)
          by_cases hxy : y < x
          · have OA := Lib.hid (hown2.out.alloc (.cells #[.int .i64 x] 3))
            rw [if_pos hxy] at PK
            unfold OwnI at OA
            rw [ht.out] at OA
            clear eS
            go_wp2_with (at_builtin; refine wpList_append_own_at _ rfl _ _ 25 rfl w.heap.size 3 i0 (.int .i64 0) 1 8 Tryz.underlying25 hi.out hz0.out hz1.out hz2.out rfl (by omega) _ _ _ rfl OA.out ⟨wr.heap.size, 0, none⟩ 1 1 [.int .i64 x] rfl rfl CN.out (by intro u hu; rw [List.mem_singleton] at hu; rw [hu]; rfl) ?qd4 ?qd5 HS.out ?_)
            case qd4 => unfold maxLen; omega
            case qd5 => omega
            intro v2 w2 hown3 hgrow _ _
            have SN : Hid (OwnI w2 w.heap.size v2 (plK p q m out (k + 1))) := Lib.hid (by rw [PK.out]; exact OwnI.push ht.out.symm hown3)
            have B2 := Lib.hid ((bel_trans hB2.out (bel_alloc (o := .cells #[.int .i64 x] 3) (Below.refl _ _))).grown hgrow HS.out (fun q hq => (World.ownsRow.lt hown2.out q hq).1))
            clear hown3 hgrow OA CN
            go_wp2
            go_roundw
            case rel => exact ⟨k + 1, by omega, by go_num, SN, B2⟩
            case measure => simp [intOf]; omega
          · rw [if_neg hxy] at PK
            clear eS CN HS
            go_wp2
            go_roundw
            case rel => exact ⟨k + 1, by omega, by go_num, Lib.hid (by rw [PK.out]; exact hown2.out), hB2⟩
            case measure => simp [intOf]; omega
        · obtain rfl : k = m := by omega
          go_wp2
          go_roundw
          case rel => exact ⟨i + 1, by omega, by go_num, Lib.hid (by rw [PO.out]; exact hown2.out), hB2⟩
          case measure => simp [intOf]; omega
    · have hjn : i = n - 1 := by omega
      rw [hjn] at hown
      go_wp2
      go_returns
      exact ⟨_, rfl, hown.out.nums, hB.out⟩
end Go.Proofs.YtgjdopjolokaiaaGreat

/- Plain facts of layer 11: sums over slices and strips. No program stands in this text. -/
namespace Go.Proofs.YtgjdopjolokaiaaGreat

/-! ### the sums -/
noncomputable def tbL (l : List (Int × Int)) (c : Int) (ps hs : List Int) (j : Nat) : Nat → Int
  | 0 => 0
  | k + 1 => tbL l c ps hs j k + (ps.getD (k + 1) 0 - ps.getD k 0) * prL (slL l (ps.getD k 0) (ps.getD (k + 1) 0)) c hs j
noncomputable def tbH (l : List (Int × Int)) (c : Int) (ps hs : List Int) (j : Nat) : Nat → Int
  | 0 => 0
  | k + 1 => tbH l c ps hs j k + (ps.getD (k + 1) 0 - ps.getD k 0) * prH (slH l (ps.getD k 0) (ps.getD (k + 1) 0)) c hs j
/-- one strip of all slices -/
noncomputable def xsL (l : List (Int × Int)) (c : Int) (ps : List Int) (a b : Int) : Nat → Int
  | 0 => 0
  | k + 1 => xsL l c ps a b k + (ps.getD (k + 1) 0 - ps.getD k 0) * ofL (slL l (ps.getD k 0) (ps.getD (k + 1) 0)) c a b
noncomputable def xsH (l : List (Int × Int)) (c : Int) (ps : List Int) (a b : Int) : Nat → Int
  | 0 => 0
  | k + 1 => xsH l c ps a b k + (ps.getD (k + 1) 0 - ps.getD k 0) * ofH (slH l (ps.getD k 0) (ps.getD (k + 1) 0)) c a b
theorem tb_strip (l : List (Int × Int)) (c : Int) (ps hs : List Int) (j k : Nat) :
    tbL l c ps hs (j + 1) k = tbL l c ps hs j k + xsL l c ps (hs.getD j 0) (hs.getD (j + 1) 0) k ∧ tbH l c ps hs (j + 1) k = tbH l c ps hs j k + xsH l c ps (hs.getD j 0) (hs.getD (j + 1) 0) k := by
  induction k with
  | zero => simp [tbL, tbH, xsL, xsH]
  | succ k ih =>
    obtain ⟨i1, i2⟩ := ih
    refine ⟨?_, ?_⟩
    · show tbL l c ps hs (j + 1) k + _ * (prL _ c hs j + _) = tbL l c ps hs j k + _ + (xsL l c ps _ _ k + _)
      rw [i1, Int.mul_add]; omega
    · show tbH l c ps hs (j + 1) k + _ * (prH _ c hs j + _) = tbH l c ps hs j k + _ + (xsH l c ps _ _ k + _)
      rw [i2, Int.mul_add]; omega
theorem tb_zero (l : List (Int × Int)) (c : Int) (ps hs : List Int) (k : Nat) : tbL l c ps hs 0 k = 0 ∧ tbH l c ps hs 0 k = 0 := by
  induction k with
  | zero => simp [tbL, tbH]
  | succ k ih => simp [tbL, tbH, prL, prH, ih.1, ih.2]
/-- the bung's radius -/
def bgR (l : List (Int × Int)) : Int := gR l (bg l l.length)
theorem PlR.slice {l : List (Int × Int)} {ps : List Int} (hR : RP l) (h : PlR l ps) {k : Nat} (hk : k + 1 < ps.length) :
    (0 < ps.getD (k + 1) 0 - ps.getD k 0 ∧ ps.getD (k + 1) 0 - ps.getD k 0 ≤ 100000) ∧ 1 ≤ slL l (ps.getD k 0) (ps.getD (k + 1) 0) ∧ slL l (ps.getD k 0) (ps.getD (k + 1) 0) ≤ slH l (ps.getD k 0) (ps.getD (k + 1) 0) ∧ slH l (ps.getD k 0) (ps.getD (k + 1) 0) ≤ bgR l ∧ bgR l ≤ 100000 := by
  have b0 := h.bd (show k < ps.length by omega)
  have b1 := h.bd hk
  have a := h.asc k hk
  have x := hR.bx (l.length - 1) (by have := hR.n0; omega)
  exact ⟨by omega, sl_bd hR (by omega) (by omega) (by omega)⟩
theorem pr_both {r s c : Int} {hs : List Int} (r0 : 0 ≤ r) (rs : r ≤ s) (s1 : s ≤ 100000) (h : HR hs) (j : Nat) (hj : j < hs.length) : 0 ≤ prL r c hs j ∧ prL r c hs j ≤ prH s c hs j ∧ prH s c hs j ≤ 40000000000 := by
  have a := pr_le (c := c) r0 (by omega) h j hj
  have b := pr_wider (c := c) r0 rs h j hj
  have d := pr_le (c := c) (r := s) (by omega) s1 h j hj
  omega
theorem tb_bd {l : List (Int × Int)} {ps hs : List Int} {c : Int} (hR : RP l) (hP : PlR l ps) (hH : HR hs) (j : Nat) (hj : j < hs.length) (k : Nat) (hk : k < ps.length) :
    0 ≤ tbL l c ps hs j k ∧ tbL l c ps hs j k ≤ tbH l c ps hs j k ∧ tbH l c ps hs j k ≤ ps.getD k 0 * 40000000000 := by
  induction k with
  | zero => rw [hP.z]; simp [tbL, tbH]
  | succ k ih =>
    obtain ⟨i0, i1, i2⟩ := ih (by omega)
    obtain ⟨⟨w0, w1⟩, s0, s1, s2, s3⟩ := hP.slice hR hk
    obtain ⟨p0, p1, p2⟩ := pr_both (c := c) (show 0 ≤ slL l (ps.getD k 0) (ps.getD (k + 1) 0) by omega) s1 (by omega) hH j hj
    show 0 ≤ tbL l c ps hs j k + _ * _ ∧ tbL l c ps hs j k + _ * _ ≤ tbH l c ps hs j k + _ * _ ∧ tbH l c ps hs j k + _ * _ ≤ _
    have m0 := Int.mul_nonneg (show 0 ≤ ps.getD (k + 1) 0 - ps.getD k 0 by omega) p0
    have m1 := Int.mul_le_mul_of_nonneg_left p1 (show 0 ≤ ps.getD (k + 1) 0 - ps.getD k 0 by omega)
    have m2 := Int.mul_le_mul_of_nonneg_left p2 (show 0 ≤ ps.getD (k + 1) 0 - ps.getD k 0 by omega)
    rw [Int.sub_mul (ps.getD (k + 1) 0) (ps.getD k 0) 40000000000] at m2
    omega
/-! ### refined heights -/
theorem tb_finer {l : List (Int × Int)} {ps hs m : List Int} {c : Int} (hR : RP l) (hP : PlR l ps) (hH : HR hs) (h1 : ∀ i, i < hs.length → m.getD (2 * i) 0 = hs.getD i 0) (h2 : ∀ i, i + 1 < hs.length → hs.getD i 0 ≤ m.getD (2 * i + 1) 0 ∧ m.getD (2 * i + 1) 0 ≤ hs.getD (i + 1) 0) (j : Nat) (hj : j < hs.length) (k : Nat) (hk : k < ps.length) :
    tbL l c ps hs j k ≤ tbL l c ps m (2 * j) k ∧ tbH l c ps m (2 * j) k ≤ tbH l c ps hs j k := by
  induction k with
  | zero => simp [tbL, tbH]
  | succ k ih =>
    obtain ⟨i0, i1⟩ := ih (by omega)
    obtain ⟨⟨w0, w1⟩, s0, s1, s2, s3⟩ := hP.slice hR hk
    have f1 := (pr_finer (c := c) (show 0 ≤ slL l (ps.getD k 0) (ps.getD (k + 1) 0) by omega) hH h1 h2 j hj).1
    have f2 := (pr_finer (c := c) (show 0 ≤ slH l (ps.getD k 0) (ps.getD (k + 1) 0) by omega) hH h1 h2 j hj).2
    show tbL l c ps hs j k + _ * _ ≤ tbL l c ps m (2 * j) k + _ * _ ∧ tbH l c ps m (2 * j) k + _ * _ ≤ tbH l c ps hs j k + _ * _
    have m1 := Int.mul_le_mul_of_nonneg_left f1 (show 0 ≤ ps.getD (k + 1) 0 - ps.getD k 0 by omega)
    have m2 := Int.mul_le_mul_of_nonneg_left f2 (show 0 ≤ ps.getD (k + 1) 0 - ps.getD k 0 by omega)
    omega
/-! ### one more place -/
theorem rd_mid {l : List (Int × Int)} (h : RP l) {k : Nat} (hk : k + 1 < l.length) {a x b : Int} (a0 : gX l k ≤ a) (ax : a ≤ x) (xb : x ≤ b) (b1 : b ≤ gX l (k + 1)) : slL l a b ≤ rdL l x ∧ rdH l x ≤ slH l a b := by
  obtain ⟨ra1, ra2⟩ := rd_piece h hk a0 (show a ≤ gX l (k + 1) by omega)
  obtain ⟨rx1, rx2⟩ := rd_piece h hk (x := x) (by omega) (by omega)
  obtain ⟨rb1, rb2⟩ := rd_piece h hk (x := b) (by omega) b1
  have d0 : 0 < gX l (k + 1) - gX l k := by have := h.asc k hk; omega
  unfold slL slH
  rw [ra1, ra2, rb1, rb2, rx1, rx2]
  unfold lnL lnH
  generalize hd : gX l (k + 1) - gX l k = d at *
  have key : ∀ {n m : Int}, n ≤ m → n / d ≤ m / d ∧ cdv n d ≤ cdv m d := fun {n m} hnm =>
    ⟨fl_mono d0 d0 (Int.mul_le_mul_of_nonneg_right hnm (by omega)), cl_mono d0 d0 (Int.mul_le_mul_of_nonneg_right hnm (by omega))⟩
  by_cases g : gR l k ≤ gR l (k + 1)
  · have u1 := key (lnN_up (a := gX l k) (b := gX l (k + 1)) g ax)
    have u2 := key (lnN_up (a := gX l k) (b := gX l (k + 1)) g xb)
    omega
  · have u1 := key (lnN_down (a := gX l k) (b := gX l (k + 1)) (show gR l (k + 1) ≤ gR l k by omega) ax)
    have u2 := key (lnN_down (a := gX l k) (b := gX l (k + 1)) (show gR l (k + 1) ≤ gR l k by omega) xb)
    omega
/-- the places with one more -/
def pins (ps : List Int) (i : Nat) (x : Int) : List Int := ps.take i ++ [x] ++ ps.drop i
theorem pins_len {ps : List Int} {i : Nat} (x : Int) (hi : i ≤ ps.length) : (pins ps i x).length = ps.length + 1 := by
  unfold pins; simp; omega
theorem pins_at {ps : List Int} {i : Nat} (x : Int) (hi : i ≤ ps.length) (j : Nat) : (pins ps i x).getD j 0 = if j < i then ps.getD j 0 else if j = i then x else ps.getD (j - 1) 0 := by
  unfold pins
  by_cases h1 : j < i
  · rw [if_pos h1, List.append_assoc, List.getD_eq_getElem?_getD, List.getElem?_append_left (by rw [List.length_take]; omega), List.getElem?_take_of_lt h1, ← List.getD_eq_getElem?_getD]
  · rw [if_neg h1, List.append_assoc, List.getD_eq_getElem?_getD, List.getElem?_append_right (by rw [List.length_take]; omega), List.length_take, show min i ps.length = i by omega]
    by_cases h2 : j = i
    · rw [if_pos h2, show j - i = 0 by omega]; rfl
    · rw [if_neg h2, List.getElem?_append_right (by simp; omega), List.getElem?_drop, show i + (j - i - [x].length) = j - 1 by simp; omega, ← List.getD_eq_getElem?_getD]
structure PinP (ps : List Int) (i : Nat) (x : Int) : Prop where
  i1 : 1 ≤ i
  i2 : i < ps.length
  lo : ps.getD (i - 1) 0 < x
  hi : x < ps.getD i 0
theorem pins_right {l : List (Int × Int)} {ps : List Int} {i : Nat} {x : Int} (hP : PlR l ps) (h : PinP ps i x) (n : ps.length ≤ 127) : PlR l (pins ps i x) := by
  obtain ⟨i1, i2, lo, hi⟩ := h
  have at' := pins_at x (show i ≤ ps.length by omega)
  have ln := pins_len x (show i ≤ ps.length by omega)
  refine ⟨by rw [ln]; omega, by rw [ln]; omega, ?_, ?_, ?_, ?_⟩
  · rw [at', if_pos (by omega), hP.z]
  · rw [ln, at', if_neg (by omega), if_neg (by omega), Nat.add_sub_cancel, hP.e]
  · intro j hj
    rw [ln] at hj
    rw [at', at']
    by_cases g1 : j + 1 < i
    · rw [if_pos (by omega), if_pos g1]; exact hP.asc j (by omega)
    · by_cases g2 : j + 1 = i
      · rw [if_pos (by omega), if_neg g1, if_pos g2, show j = i - 1 by omega]; exact lo
      · by_cases g3 : j = i
        · rw [if_neg (by omega), if_pos g3, if_neg (by omega), if_neg (by omega), Nat.add_sub_cancel, g3]; exact hi
        · rw [if_neg (by omega), if_neg g3, if_neg (by omega), if_neg (by omega), Nat.add_sub_cancel]
          have := hP.asc (j - 1) (by omega)
          rwa [Nat.sub_add_cancel (by omega)] at this
  · intro j hj
    obtain ⟨t, ht, et⟩ := hP.has j hj
    by_cases g : t < i
    · exact ⟨t, by rw [ln]; omega, by rw [at', if_pos g]; exact et⟩
    · exact ⟨t + 1, by rw [ln]; omega, by rw [at', if_neg (by omega), if_neg (by omega), Nat.add_sub_cancel]; exact et⟩
theorem tb_more {l : List (Int × Int)} {ps hs : List Int} {i : Nat} {x c : Int} (hR : RP l) (hP : PlR l ps) (h : PinP ps i x) (hH : HR hs) (j : Nat) (hj : j < hs.length) :
    (∀ k, k < i → tbL l c (pins ps i x) hs j k = tbL l c ps hs j k ∧ tbH l c (pins ps i x) hs j k = tbH l c ps hs j k) ∧
    (∀ k, i ≤ k → k < ps.length → tbL l c ps hs j k ≤ tbL l c (pins ps i x) hs j (k + 1) ∧ tbH l c (pins ps i x) hs j (k + 1) ≤ tbH l c ps hs j k) := by
  obtain ⟨i1, i2, lo, hi⟩ := h
  have at' := pins_at x (show i ≤ ps.length by omega)
  have below : ∀ k, k < i → tbL l c (pins ps i x) hs j k = tbL l c ps hs j k ∧ tbH l c (pins ps i x) hs j k = tbH l c ps hs j k := by
    intro k
    induction k with
    | zero => intro _; simp [tbL, tbH]
    | succ k ih =>
      intro hk
      obtain ⟨e1, e2⟩ := ih (by omega)
      unfold tbL tbH
      rw [at', at', if_pos hk, if_pos (by omega), e1, e2]
      exact ⟨rfl, rfl⟩
  refine ⟨below, fun k => ?_⟩
  induction k with
  | zero => intro h; omega
  | succ k ih =>
    intro hk hk2
    by_cases g : i = k + 1
    · subst g
      obtain ⟨e1, e2⟩ := below k (by omega)
      rw [Nat.add_sub_cancel] at lo
      obtain ⟨t, ht, t0, t1⟩ := hP.piece hR hk2
      have md := rd_mid hR ht t0 (show ps.getD k 0 ≤ x by omega) (show x ≤ ps.getD (k + 1) 0 by omega) t1
      obtain ⟨⟨w0, w1⟩, s0, s1, s2, s3⟩ := hP.slice hR hk2
      have a1 : slL l (ps.getD k 0) (ps.getD (k + 1) 0) ≤ slL l (ps.getD k 0) x ∧ slL l (ps.getD k 0) (ps.getD (k + 1) 0) ≤ slL l x (ps.getD (k + 1) 0) ∧ slH l (ps.getD k 0) x ≤ slH l (ps.getD k 0) (ps.getD (k + 1) 0) ∧ slH l x (ps.getD (k + 1) 0) ≤ slH l (ps.getD k 0) (ps.getD (k + 1) 0) := by
        unfold slL slH at *; omega
      have b0 := hP.bd (show k < ps.length by omega)
      have b1 := hP.bd hk2
      have c1 := sl_bd hR (a := ps.getD k 0) (b := x) b0.1 (by omega) (by omega)
      have c2 := sl_bd hR (a := x) (b := ps.getD (k + 1) 0) (by omega) (by omega) b1.2
      have q1 := (pr_wider (c := c) (show 0 ≤ slL l (ps.getD k 0) (ps.getD (k + 1) 0) by omega) a1.1 hH j hj).1
      have q2 := (pr_wider (c := c) (show 0 ≤ slL l (ps.getD k 0) (ps.getD (k + 1) 0) by omega) a1.2.1 hH j hj).1
      have q3 := (pr_wider (c := c) (show 0 ≤ slH l (ps.getD k 0) x by omega) a1.2.2.1 hH j hj).2
      have q4 := (pr_wider (c := c) (show 0 ≤ slH l x (ps.getD (k + 1) 0) by omega) a1.2.2.2 hH j hj).2
      have m1 := Int.mul_le_mul_of_nonneg_left q1 (show 0 ≤ x - ps.getD k 0 by omega)
      have m2 := Int.mul_le_mul_of_nonneg_left q2 (show 0 ≤ ps.getD (k + 1) 0 - x by omega)
      have m3 := Int.mul_le_mul_of_nonneg_left q3 (show 0 ≤ x - ps.getD k 0 by omega)
      have m4 := Int.mul_le_mul_of_nonneg_left q4 (show 0 ≤ ps.getD (k + 1) 0 - x by omega)
      have sp : ∀ q : Int, (ps.getD (k + 1) 0 - ps.getD k 0) * q = (x - ps.getD k 0) * q + (ps.getD (k + 1) 0 - x) * q := fun q => by rw [← Int.add_mul]; congr 1; omega
      have p0 : (pins ps (k + 1) x).getD k 0 = ps.getD k 0 := by rw [at', if_pos (by omega)]
      have p1 : (pins ps (k + 1) x).getD (k + 1) 0 = x := by rw [at', if_neg (by omega), if_pos rfl]
      have p2 : (pins ps (k + 1) x).getD (k + 1 + 1) 0 = ps.getD (k + 1) 0 := by rw [at', if_neg (by omega), if_neg (by omega), Nat.add_sub_cancel]
      show tbL l c ps hs j k + _ * _ ≤ tbL l c (pins ps (k + 1) x) hs j k + _ * prL (slL l ((pins ps (k + 1) x).getD k 0) ((pins ps (k + 1) x).getD (k + 1) 0)) c hs j + _ * prL (slL l ((pins ps (k + 1) x).getD (k + 1) 0) ((pins ps (k + 1) x).getD (k + 1 + 1) 0)) c hs j ∧ tbH l c (pins ps (k + 1) x) hs j k + _ * prH (slH l ((pins ps (k + 1) x).getD k 0) ((pins ps (k + 1) x).getD (k + 1) 0)) c hs j + _ * prH (slH l ((pins ps (k + 1) x).getD (k + 1) 0) ((pins ps (k + 1) x).getD (k + 1 + 1) 0)) c hs j ≤ tbH l c ps hs j k + _ * _
      rw [e1, e2, p0, p1, p2, sp, sp]
      omega
    · obtain ⟨e1, e2⟩ := ih (by omega) (by omega)
      have p1 : (pins ps i x).getD (k + 1) 0 = ps.getD k 0 := by rw [at', if_neg (by omega), if_neg (by omega), Nat.add_sub_cancel]
      have p2 : (pins ps i x).getD (k + 1 + 1) 0 = ps.getD (k + 1) 0 := by rw [at', if_neg (by omega), if_neg (by omega), Nat.add_sub_cancel]
      show tbL l c ps hs j k + _ * _ ≤ tbL l c (pins ps i x) hs j (k + 1) + _ * prL (slL l ((pins ps i x).getD (k + 1) 0) ((pins ps i x).getD (k + 1 + 1) 0)) c hs j ∧ tbH l c (pins ps i x) hs j (k + 1) + _ * prH (slH l ((pins ps i x).getD (k + 1) 0) ((pins ps i x).getD (k + 1 + 1) 0)) c hs j ≤ tbH l c ps hs j k + _ * _
      rw [p1, p2]
      omega
end Go.Proofs.YtgjdopjolokaiaaGreat

/- Plain facts of layer 11: the places of m-fold slices are right. No program stands in this text. -/
namespace Go.Proofs.YtgjdopjolokaiaaGreat

/-- places that increase, from 0 to z -/
structure AscTo (out : List Int) (z : Int) : Prop where
  n0 : 1 ≤ out.length
  f : out.getD 0 0 = 0
  e : out.getD (out.length - 1) 0 = z
  asc : ∀ i, i + 1 < out.length → out.getD i 0 < out.getD (i + 1) 0
theorem getD_snoc {out : List Int} {x : Int} (i : Nat) : (out ++ [x]).getD i 0 = if i < out.length then out.getD i 0 else if i = out.length then x else 0 := by
  by_cases h : i < out.length
  · rw [if_pos h, List.getD_eq_getElem?_getD, List.getElem?_append_left h, ← List.getD_eq_getElem?_getD]
  · rw [if_neg h]
    by_cases h2 : i = out.length
    · rw [if_pos h2, h2, List.getD_eq_getElem?_getD, List.getElem?_append_right (Nat.le_refl _)]; simp
    · rw [if_neg h2, List.getD_eq_getElem?_getD, List.getElem?_eq_none (by rw [List.length_append]; simp; omega)]; rfl
theorem plS_asc {out : List Int} {z x : Int} (h : AscTo out z) (hx : z ≤ x) : AscTo (plS out x) x ∧ (∀ i, i < out.length → (plS out x).getD i 0 = out.getD i 0) := by
  unfold plS
  obtain ⟨n0, f, e, asc⟩ := h
  rw [e]
  by_cases g : z < x
  · rw [if_pos g]
    refine ⟨⟨by rw [List.length_append]; simp, ?_, ?_, fun i hi => ?_⟩, fun i hi => ?_⟩
    · rw [getD_snoc, if_pos (by omega), f]
    · rw [List.length_append, getD_snoc]; simp
    · rw [List.length_append] at hi
      simp at hi
      rw [getD_snoc, getD_snoc, if_pos (by omega)]
      by_cases g2 : i + 1 < out.length
      · rw [if_pos g2]; exact asc i g2
      · rw [if_neg g2, if_pos (by omega), show i = out.length - 1 by omega, e]; exact g
    · rw [getD_snoc, if_pos hi]
  · rw [if_neg g]
    exact ⟨⟨n0, f, by rw [e]; omega, asc⟩, fun i _ => rfl⟩
theorem plK_asc {out : List Int} {p q m : Int} (h : AscTo out p) (hq : p ≤ q) (hm : 1 ≤ m) (k : Nat) : AscTo (plK p q m out k) (p + (k : Int) * (q - p) / m) ∧ (∀ i, i < out.length → (plK p q m out k).getD i 0 = out.getD i 0) := by
  induction k with
  | zero =>
    refine ⟨?_, fun i _ => rfl⟩
    show AscTo out _
    simpa using h
  | succ k ih =>
    obtain ⟨i1, i2⟩ := ih
    have mono : p + (k : Int) * (q - p) / m ≤ p + ((k : Int) + 1) * (q - p) / m := by
      have := Int.ediv_le_ediv (a := (k : Int) * (q - p)) (b := ((k : Int) + 1) * (q - p)) (c := m) (by omega) (by rw [Int.add_mul]; omega)
      omega
    obtain ⟨j1, j2⟩ := plS_asc i1 mono
    have ln := (plK_len p q m out k).1
    refine ⟨by rw [Int.natCast_succ]; exact j1, fun i hi => ?_⟩
    show (plS (plK p q m out k) _).getD i 0 = _
    rw [j2 i (by omega), i2 i hi]
theorem plO_asc {l : List (Int × Int)} (hR : RP l) {m : Nat} (hm : 1 ≤ m) (i : Nat) (hi : i < l.length) : AscTo (plO l m i) (gX l i) ∧ ∀ j, j ≤ i → ∃ t, t < (plO l m i).length ∧ (plO l m i).getD t 0 = gX l j := by
  induction i with
  | zero =>
    refine ⟨⟨by simp [plO], rfl, ?_, fun i hi => by simp [plO] at hi⟩, fun j hj => ?_⟩
    · rw [hR.x0]; rfl
    · obtain rfl : j = 0 := by omega
      exact ⟨0, by simp [plO], by rw [hR.x0]; rfl⟩
  | succ i ih =>
    obtain ⟨a, b⟩ := ih (by omega)
    have as0 := hR.asc i hi
    obtain ⟨c, d⟩ := plK_asc (m := (m : Int)) a (show gX l i ≤ gX l (i + 1) by omega) (by omega) m
    have em : gX l i + (m : Int) * (gX l (i + 1) - gX l i) / m = gX l (i + 1) := by
      rw [Int.mul_ediv_cancel_left _ (by omega)]; omega
    rw [em] at c
    have ln := (plK_len (gX l i) (gX l (i + 1)) m (plO l m i) m).1
    refine ⟨c, fun j hj => ?_⟩
    show ∃ t, t < (plK (gX l i) (gX l (i + 1)) m (plO l m i) m).length ∧ _
    by_cases g : j = i + 1
    · subst g
      exact ⟨_, by have := c.n0; omega, c.e⟩
    · obtain ⟨t, ht, et⟩ := b j (by omega)
      exact ⟨t, by omega, by show (plK _ _ _ _ m).getD t 0 = _; rw [d t ht]; exact et⟩
/-- the places of m-fold slices are right ones -/
theorem plO_right {l : List (Int × Int)} (hR : RP l) {m : Nat} (hm : 1 ≤ m) (n1 : (plO l m (l.length - 1)).length ≤ 128) : PlR l (plO l m (l.length - 1)) := by
  have n0 := hR.n0
  obtain ⟨a, b⟩ := plO_asc hR hm (l.length - 1) (by omega)
  refine ⟨?_, n1, a.f, a.e, a.asc, fun j hj => b j (by omega)⟩
  by_cases g : 2 ≤ (plO l m (l.length - 1)).length
  · exact g
  · have e := a.e
    have f := a.f
    rw [show (plO l m (l.length - 1)).length - 1 = 0 by omega, f] at e
    have := gX_lt hR (i := 0) (j := l.length - 1) (by omega) (by omega)
    rw [hR.x0] at this
    omega
/-- what Slices returns -/
def slE (l : List (Int × Int)) (m : Int) : Int := if ckE l = 0 then (if m < 1 ∨ 64 < m then 2 else if 65 < (plO l m.toNat (l.length - 1)).length then 15 else 0) else 1
def slP (l : List (Int × Int)) (m : Int) : List Int := if slE l m = 0 then plO l m.toNat (l.length - 1) else []
end Go.Proofs.YtgjdopjolokaiaaGreat

/- The reference of layer 8: Few. -/
namespace Go.Proofs.YtgjdopjolokaiaaGreat
open Go.RowKit

theorem few_any (v : Value) (l : List (Int × Int)) (w : World) (hv : Pts w v l) :
    Calls Tryz.prog 44 #[v] w fun e w' => e = .returned (.bool (decide (l.length ≤ 33))) ∧ w' = w := by
  obtain ⟨a, cap, rfl, h1, h2⟩ := hv.shape
  go_enter Tryz.func44, Tryz.ntmps44
  go_wp2
  go_ret
  exact ⟨ret_bool (decide_eq_decide.2 (by omega)), rfl⟩
theorem refLen_any (n : Int) (w : World) : Calls Tryz.prog 95 #[.int .i64 n] w fun e w' => e = .returned (.bool (lenB n)) ∧ w = w' := by
  by_cases h0 : 0 ≤ n <;> by_cases h1 : n ≤ 100000
  all_goals
    go_enter Tryz.func95, Tryz.ntmps95
    go_wp2
    go_ret
    exact ⟨by simp [lenB, h0, h1], rfl⟩

theorem sam_eq {l m : List (Int × Int)} (hl : l.length = m.length) (h : ∀ j, j < l.length → samP (gX l j) (gR l j) (gX m j) (gR m j) = true) : l = m := by
  apply List.ext_getElem hl
  intro i h1 h2
  have := h i h1
  simp only [samP, Bool.and_eq_true, beq_iff_eq, gX, gR, List.getD_eq_getElem?_getD, List.getElem?_eq_getElem h1, List.getElem?_eq_getElem h2, Option.getD_some] at this
  exact Prod.ext this.1 this.2
end Go.Proofs.YtgjdopjolokaiaaGreat

/- The reference of layer 8: Check. -/
namespace Go.Proofs.YtgjdopjolokaiaaGreat
open Go.RowKit

theorem refCk_few (a : Option Addr) (n cap : Nat) (w : World) (h : n < 2) :
    Calls Tryz.prog 78 #[.slice a n cap] w fun e w' => e = .returned (.int .i64 9) ∧ Below w.heap.size w w' := by
  go_enter Tryz.func78, Tryz.ntmps78
  go_wp2
  go_returns
  exact ⟨rfl, Below.refl _ _⟩
theorem refCk_many (a : Option Addr) (n cap : Nat) (w : World) (h : 32 < n) (h2 : n ≤ 9223372036854775807) :
    Calls Tryz.prog 78 #[.slice a n cap] w fun e w' => e = .returned (.int .i64 8) ∧ Below w.heap.size w w' := by
  go_enter Tryz.func78, Tryz.ntmps78
  go_wp2
  go_returns
  exact ⟨rfl, Below.refl _ _⟩
set_option maxRecDepth 100000 in
set_option maxHeartbeats 16000000 in
theorem refCk_some (b off n cap : Nat) (l : List (Int × Int)) (E : Int) (w : World) (n0 : 2 ≤ n) (n1 : n ≤ 32) (hb : b < w.heap.size)
    (hc : Hid (∀ j, j < n → w.cell? ⟨b, off + j * 2, none⟩ = some (.int .i64 (gX l j)) ∧ w.cell? ⟨b, off + j * 2 + 1, none⟩ = some (.int .i64 (gR l j))))
    (h1 : Hid ((∃ j, j < n ∧ (lenB (gX l j) && lenB (gR l j)) = false) → E = 2))
    (h2 : Hid ((∀ j, j < n → (lenB (gX l j) && lenB (gR l j)) = true) → (gX l 0 ≠ 0 ∨ ∃ j, j + 1 < n ∧ gX l (j + 1) ≤ gX l j) → E = 5))
    (h3 : Hid ((∀ j, j < n → (lenB (gX l j) && lenB (gR l j)) = true) → gX l 0 = 0 → (∀ j, j + 1 < n → gX l j < gX l (j + 1)) → (∃ j, j < n ∧ gR l j = 0) → E = 16))
    (h4 : Hid ((∀ j, j < n → (lenB (gX l j) && lenB (gR l j)) = true) → gX l 0 = 0 → (∀ j, j + 1 < n → gX l j < gX l (j + 1)) → (∀ j, j < n → gR l j ≠ 0) → E = (if swl l (n - 1) = true then 10 else 0))) :
    Calls Tryz.prog 78 #[.slice (some ⟨b, off, none⟩) n cap] w fun e w' => e = .returned (.int .i64 E) ∧ Below w.heap.size w w' := by
  go_enter Tryz.func78, Tryz.ntmps78
  go_wp2_with fail
  go_loopw [3] (fun ii wr => ∃ (k : Nat), k ≤ n ∧ ii = .int .i64 k ∧ Hid (Below w.heap.size w wr) ∧ Hid (∀ j, j < k → (lenB (gX l j) && lenB (gR l j)) = true)) (fun ii _ => n - (intOf ii).toNat)
  case atStart => exact ⟨0, by omega, rfl, Below.refl _ _, fun j hj => by omega⟩
  case round =>
    obtain ⟨k, hk, rfl, hB, ha⟩ := hrel
    by_cases hlt : k < n
    · have c0 : wr.cell? ⟨b, off + k * 2, none⟩ = some (.int .i64 (gX l k)) := by rw [(bcell hB.out).1 _ _ hb]; exact (hc.out k hlt).1
      have c1 : wr.cell? ⟨b, off + k * 2 + 1, none⟩ = some (.int .i64 (gR l k)) := by rw [(bcell hB.out).1 _ _ hb]; exact (hc.out k hlt).2
      have HF : Hid ((lenB (gX l k) && lenB (gR l k)) = false → E = 2) := fun h => h1.out ⟨k, hlt, h⟩
      have HT : Hid ((lenB (gX l k) && lenB (gR l k)) = true → ∀ j, j < k + 1 → (lenB (gX l j) && lenB (gR l j)) = true) := fun h j hj => by
        by_cases e : j = k
        · rw [e]; exact h
        · exact ha.out j (by omega)
      have L1 := Lib.hid (fun W => refLen_any (gX l k) W)
      have L2 := Lib.hid (fun W => refLen_any (gR l k) W)
      have l1 : (k : Int) < (n : Int) := by omega
      generalize gX l k = x at *
      generalize gR l k = r at *
      cases hx : lenB x with
      | false =>
        obtain rfl := HF.out (by rw [hx]; rfl)
        rw [hx] at L1
        clear HF HT hx
        go_wp2_with fail
        refine (L1.out _).mono ?_
        rintro e w1 ⟨rfl, hw⟩
        subst hw
        go_wp2
        go_returns
        exact ⟨rfl, hB.out⟩
      | true =>
        rw [hx] at L1
        cases hr : lenB r with
        | false =>
          obtain rfl := HF.out (by rw [hx, hr]; rfl)
          rw [hr] at L2
          clear HF HT hx hr
          go_wp2_with fail
          refine (L1.out _).mono ?_
          rintro e w1 ⟨rfl, hw⟩
          subst hw
          go_wp2_with fail
          refine (L2.out _).mono ?_
          rintro e w1 ⟨rfl, hw⟩
          subst hw
          go_wp2
          go_returns
          exact ⟨rfl, hB.out⟩
        | true =>
          have ha2 := Lib.hid (HT.out (by rw [hx, hr]; rfl))
          rw [hr] at L2
          clear HF HT hx hr
          go_wp2_with fail
          refine (L1.out _).mono ?_
          rintro e w1 ⟨rfl, hw⟩
          subst hw
          go_wp2_with fail
          refine (L2.out _).mono ?_
          rintro e w1 ⟨rfl, hw⟩
          subst hw
          go_wp2
          go_roundw
          case rel => exact ⟨k + 1, by omega, by go_num, hB, ha2⟩
          case measure => simp [intOf]; omega
    · obtain rfl : k = n := by omega
      have H2 := Lib.hid (h2.out ha.out)
      have H3 := Lib.hid (h3.out ha.out)
      have H4 := Lib.hid (h4.out ha.out)
      have hB0 := hB
      clear h1 h2 h3 h4 ha
      go_wp2_with fail
      clear hB
      go_loopw [4] (fun ii wz => ∃ (j : Nat), j ≤ k ∧ ii = .int .i64 j ∧ Hid (Below w.heap.size w wz) ∧ Hid (0 < j → gX l 0 = 0) ∧ Hid (∀ i, i + 1 < j → gX l i < gX l (i + 1))) (fun ii _ => k - (intOf ii).toNat)
      case atStart => exact ⟨0, by omega, rfl, hB0, fun h => by omega, fun i hi => by omega⟩
      case round =>
        obtain ⟨j, hj, rfl, hB, hz, ha⟩ := hrel
        by_cases hlt : j < k
        · have l1 : (j : Int) < (k : Int) := by omega
          by_cases hj0 : j = 0
          · subst hj0
            have c0 : wr.cell? ⟨b, off, none⟩ = some (.int .i64 (gX l 0)) := by rw [(bcell hB.out).1 _ _ hb]; simpa using (hc.out 0 (by omega)).1
            have HF : Hid (gX l 0 ≠ 0 → E = 5) := fun h => H2.out (.inl h)
            have HT : Hid (gX l 0 = 0 → gX l 0 = 0) := id
            generalize hx0 : gX l 0 = x at c0 HF
            by_cases hx : x = 0
            · subst hx
              have ex : Hid (gX l 0 = 0) := hx0
              clear HF HT hx0
              go_wp2_with fail
              go_quiet (fail)
              go_wp2
              go_roundw
              case rel => exact ⟨1, by omega, by go_num, bel_trans hB.out (bel_drewN _ _), fun _ => (by first | trivial | exact ex.out), fun i hi => by omega⟩
              case measure => simp [intOf]; omega
            · obtain rfl := HF.out hx
              have q1 : (x != 0) = true := by simpa using hx
              clear HF HT hx0
              go_wp2_with fail
              go_quiet (fail)
              go_wp2
              go_returns
              exact ⟨rfl, bel_trans hB.out (bel_drewN _ _)⟩
          · obtain ⟨m, rfl⟩ : ∃ m, j = m + 1 := ⟨j - 1, by omega⟩
            have c0 : wr.cell? ⟨b, off + m * 2, none⟩ = some (.int .i64 (gX l m)) := by rw [(bcell hB.out).1 _ _ hb]; exact (hc.out m (by omega)).1
            have c1 : wr.cell? ⟨b, off + (m + 1) * 2, none⟩ = some (.int .i64 (gX l (m + 1))) := by rw [(bcell hB.out).1 _ _ hb]; exact (hc.out (m + 1) (by omega)).1
            have HF : Hid (gX l (m + 1) ≤ gX l m → E = 5) := fun h => H2.out (.inr ⟨m, hlt, h⟩)
            have HT : Hid (gX l m < gX l (m + 1) → ∀ i, i + 1 < m + 1 + 1 → gX l i < gX l (i + 1)) := fun h i hi => by
              by_cases e : i = m
              · rw [e]; exact h
              · exact ha.out i (by omega)
            have hz2 : Hid (gX l 0 = 0) := hz.out (by omega)
            have l2 : m < k := by omega
            have l3 : (m : Int) < (k : Int) := by omega
            have l4 : m + 1 < k := by omega
            have l5 : (m : Int) + 1 < (k : Int) := by omega
            have g0 : ((m : Int) + 1 == 0) = false := by rw [beq_eq_false_iff_ne]; omega
            have g1 : decide ((0 : Int) < (m : Int) + 1) = true := decide_eq_true (by omega)
            have wj : IntKind.i64.wrap ((m : Int) + 1 - 1) = (m : Int) := by simp only [IntKind.wrap_i64]; omega
            have wk : IntKind.i64.wrap (m : Int) = (m : Int) := by simp only [IntKind.wrap_i64]; omega
            have l6 : 0 ≤ (m : Int) + 1 := by omega
            have l7 : ((m : Int) + 1).toNat = m + 1 := by omega
            generalize gX l m = x at *
            generalize gX l (m + 1) = y at *
            clear hz hj0
            by_cases hxy : y ≤ x
            · obtain rfl := HF.out hxy
              have hd : decide (y ≤ x) = true := decide_eq_true hxy
              clear HF HT
              go_wp2_with fail
              go_quiet (fail)
              go_wp2
              go_returns
              exact ⟨rfl, bel_trans hB.out (bel_drewN _ _)⟩
            · have ha2 := Lib.hid (HT.out (by omega))
              have hd : decide (y ≤ x) = false := decide_eq_false hxy
              clear HF HT
              go_wp2_with fail
              go_quiet (fail)
              go_wp2
              go_roundw
              case rel => exact ⟨m + 1 + 1, by omega, by go_num, bel_trans hB.out (bel_drewN _ _), fun _ => hz2.out, ha2.out⟩
              case measure => simp [intOf]; omega
        · obtain rfl : j = k := by omega
          have H3' := Lib.hid (H3.out (hz.out (by omega)) (fun i hi => ha.out i hi))
          have H4' := Lib.hid (H4.out (hz.out (by omega)) (fun i hi => ha.out i hi))
          have hB1 := hB
          clear H2 H3 H4 ha hz hB0
          go_wp2_with fail
          clear hB
          go_loopw [5] (fun ii wy => ∃ (i : Nat), i ≤ j ∧ ii = .int .i64 i ∧ Hid (Below w.heap.size w wy) ∧ Hid (∀ m, m < i → gR l m ≠ 0)) (fun ii _ => j - (intOf ii).toNat)
          case atStart => exact ⟨0, by omega, rfl, hB1, fun m hm => by omega⟩
          case round =>
            obtain ⟨i, hi, rfl, hB, ha⟩ := hrel
            by_cases hlt : i < j
            · have c1 : wr.cell? ⟨b, off + i * 2 + 1, none⟩ = some (.int .i64 (gR l i)) := by rw [(bcell hB.out).1 _ _ hb]; exact (hc.out i hlt).2
              have HF : Hid (gR l i = 0 → E = 16) := fun h => H3'.out ⟨i, hlt, h⟩
              have HT : Hid (gR l i ≠ 0 → ∀ m, m < i + 1 → gR l m ≠ 0) := fun h m hm => by
                by_cases e : m = i
                · rw [e]; exact h
                · exact ha.out m (by omega)
              have l1 : (i : Int) < (j : Int) := by omega
              generalize gR l i = r at *
              by_cases hr : r = 0
              · obtain rfl := HF.out hr
                have q1 : (r == 0) = true := by simpa using hr
                clear HF HT
                go_wp2
                go_returns
                exact ⟨rfl, hB.out⟩
              · have ha2 := Lib.hid (HT.out hr)
                have q1 : (r == 0) = false := by simpa using hr
                clear HF HT
                go_wp2
                go_roundw
                case rel => exact ⟨i + 1, by omega, by go_num, hB, ha2⟩
                case measure => simp [intOf]; omega
            · obtain rfl : i = j := by omega
              have H5 := Lib.hid (H4'.out ha.out)
              have hB2 := hB
              clear H3' H4' ha hB1
              go_wp2_with fail
              clear hB
              go_loopw [6, 7] (fun ff ii wx => ∃ (m : Nat), m + 1 ≤ i ∧ ii = .int .i64 ((m : Int) + 1) ∧ ff = .bool (fal l m) ∧ Hid (Below w.heap.size w wx) ∧ Hid (swl l m = false)) (fun _ ii _ => i - (intOf ii).toNat)
              case atStart => exact ⟨0, by omega, rfl, rfl, hB2, rfl⟩
              case round =>
                obtain ⟨m, hm, rfl, rfl, hB, hs⟩ := hrel
                by_cases hlt : m + 1 < i
                · have c0 : wr.cell? ⟨b, off + m * 2 + 1, none⟩ = some (.int .i64 (gR l m)) := by rw [(bcell hB.out).1 _ _ hb]; exact (hc.out m (by omega)).2
                  have c1 : wr.cell? ⟨b, off + (m + 1) * 2 + 1, none⟩ = some (.int .i64 (gR l (m + 1))) := by rw [(bcell hB.out).1 _ _ hb]; exact (hc.out (m + 1) (by omega)).2
                  have EF : Hid (fal l (m + 1) = (fal l m || decide (gR l (m + 1) < gR l m))) := rfl
                  have ES : Hid (swl l (m + 1) = (swl l m || (fal l m && decide (gR l m < gR l (m + 1))))) := rfl
                  have HF : Hid (swl l (m + 1) = true → E = 10) := fun h => by
                    have : swl l (i - 1) = true := by
                      obtain ⟨p, q, a1, a2, a3⟩ := (swl_iff _ _).1 h
                      exact (swl_iff _ _).2 ⟨p, q, a1, by omega, a3⟩
                    rw [H5.out, if_pos this]
                  rw [hs.out] at ES
                  have l2 : m < i := by omega
                  have l3 : (m : Int) < (i : Int) := by omega
                  have l5 : (m : Int) + 1 < (i : Int) := by omega
                  have wj : IntKind.i64.wrap ((m : Int) + 1 - 1) = (m : Int) := by simp only [IntKind.wrap_i64]; omega
                  have wk : IntKind.i64.wrap (m : Int) = (m : Int) := by simp only [IntKind.wrap_i64]; omega
                  have l6 : 0 ≤ (m : Int) + 1 := by omega
                  have l7 : ((m : Int) + 1).toNat = m + 1 := by omega
                  generalize fal l m = s at *
                  generalize gR l m = p at *
                  generalize gR l (m + 1) = q at *
                  clear hs
                  by_cases g1 : p < q
                  · have g2 : ¬ q < p := by omega
                    have d1 : decide (p < q) = true := decide_eq_true g1
                    have d2 : decide (q < p) = false := decide_eq_false g2
                    rw [d1] at ES
                    rw [d2] at EF
                    cases s with
                    | true =>
                      obtain rfl := HF.out (by rw [ES.out]; rfl)
                      clear EF ES HF H5
                      go_wp2_with fail
                      go_quiet (fail)
                      go_wp2
                      go_returns
                      exact ⟨rfl, bel_trans hB.out (bel_drewN _ _)⟩
                    | false =>
                      clear HF
                      go_wp2_with fail
                      go_quiet (fail)
                      go_wp2_with fail
                      go_quiet (fail)
                      go_wp2
                      go_roundw
                      case rel => exact ⟨m + 1, by omega, by go_num, by rw [EF.out]; rfl, bel_trans hB.out (bel_drewN _ _), by show _ = _; rw [ES.out]; rfl⟩
                      case measure => simp [intOf]; omega
                  · have d1 : decide (p < q) = false := decide_eq_false g1
                    rw [d1] at ES
                    cases s with
                    | true =>
                      clear HF
                      go_wp2_with fail
                      go_quiet (fail)
                      go_wp2_with fail
                      go_quiet (fail)
                      go_wp2
                      go_roundw
                      case rel => exact ⟨m + 1, by omega, by go_num, by rw [EF.out]; rfl, bel_trans hB.out (bel_drewN _ _), by show _ = _; rw [ES.out]; rfl⟩
                      case measure => simp [intOf]; omega
                    | false =>
                      clear HF
                      by_cases g2 : q < p
                      · have d2 : decide (q < p) = true := decide_eq_true g2
                        rw [d2] at EF
                        go_wp2_with fail
                        go_quiet (fail)
                        go_wp2_with fail
                        go_quiet (fail)
                        go_wp2
                        go_roundw
                        case rel => exact ⟨m + 1, by omega, by go_num, by rw [EF.out]; rfl, bel_trans hB.out (bel_drewN _ _), by show _ = _; rw [ES.out]; rfl⟩
                        case measure => simp [intOf]; omega
                      · have d2 : decide (q < p) = false := decide_eq_false g2
                        rw [d2] at EF
                        go_wp2_with fail
                        go_quiet (fail)
                        go_wp2_with fail
                        go_quiet (fail)
                        go_wp2
                        go_roundw
                        case rel => exact ⟨m + 1, by omega, by go_num, by rw [EF.out]; rfl, bel_trans hB.out (bel_drewN _ _), by show _ = _; rw [ES.out]; rfl⟩
                        case measure => simp [intOf]; omega
                · obtain rfl : i = m + 1 := by omega
                  have e : E = 0 := by rw [H5.out, show m + 1 - 1 = m by omega, if_neg (by rw [hs.out]; simp)]
                  subst e
                  go_wp2
                  go_returns
                  exact ⟨rfl, hB.out⟩
theorem refCk_any (v : Value) (l : List (Int × Int)) (w : World) (hv : Pts w v l) :
    Calls Tryz.prog 78 #[v] w fun e w' => e = .returned (.int .i64 (ckE l)) ∧ Below w.heap.size w w' := by
  obtain ⟨a, cap, rfl, hl, hh⟩ := hv
  by_cases h0 : l.length < 2
  · rw [show ckE l = 9 by unfold ckE; rw [if_pos h0]]
    exact refCk_few a l.length cap w h0
  · by_cases h1 : 32 < l.length
    · rw [show ckE l = 8 by unfold ckE; rw [if_neg h0, if_pos h1]]
      exact refCk_many a l.length cap w h1 (by omega)
    · rcases hh with hh | ⟨b, off, rfl, hb, hc⟩
      · omega
      · have e : ckE l = (if l.any ptOut = true then 2 else if (adv l (l.length - 1) && (gX l 0 == 0)) = false then 5 else if l.any ptCl = true then 16 else if swl l (l.length - 1) = true then 10 else 0) := by unfold ckE; rw [if_neg h0, if_neg h1]
        have o1 : (∀ j, j < l.length → (lenB (gX l j) && lenB (gR l j)) = true) → ¬ l.any ptOut = true := fun h => by
          rw [any_not fun i hi => ?_]
          · simp
          · show (!(lenB (gX l i) && lenB (gR l i))) = false
            rw [h i hi]; rfl
        have o2 : gX l 0 = 0 → (∀ j, j + 1 < l.length → gX l j < gX l (j + 1)) → ¬ (adv l (l.length - 1) && (gX l 0 == 0)) = false := fun h1 h2 => by
          rw [(adv_iff l _).2 fun i hi => h2 i (by omega), h1]; simp
        refine refCk_some b off l.length cap l _ w (by omega) (by omega) hb hc (fun ⟨j, hj, h⟩ => ?_) (fun h g => ?_) (fun h g1 g2 ⟨j, hj, h3⟩ => ?_) (fun h g1 g2 g3 => ?_)
        · rw [e, if_pos]
          refine any_of hj ?_
          show (!(lenB (gX l j) && lenB (gR l j))) = true
          rw [h]; rfl
        · rw [e, if_neg (o1 h), if_pos]
          rcases g with g | ⟨j, hj, g⟩
          · rw [show (gX l 0 == 0) = false by simpa using g, Bool.and_false]
          · have : adv l (l.length - 1) = false := by
              rw [Bool.eq_false_iff]
              intro ha
              have := (adv_iff l _).1 ha j (by omega)
              omega
            rw [this, Bool.false_and]
        · rw [e, if_neg (o1 h), if_neg (o2 g1 g2), if_pos]
          refine any_of hj ?_
          show (gR l j == 0) = true
          rw [h3]; rfl
        · rw [e, if_neg (o1 h), if_neg (o2 g1 g2), if_neg]
          rw [any_not fun i hi => ?_]
          · simp
          · show (gR l i == 0) = false
            simpa using g3 i hi
end Go.Proofs.YtgjdopjolokaiaaGreat
