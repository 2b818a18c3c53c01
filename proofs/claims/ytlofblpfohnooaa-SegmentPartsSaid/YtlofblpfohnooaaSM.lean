/- Plain facts on areas of circles between heights. No program stands in this text. -/
import Derived.Test.YtlofblpfohnooaaRM
namespace Go.Proofs.Ytlofblpfohnooaa

/-! ### half chords at a distance: more on them -/
theorem hc_le (r y : Int) (hr : 0 ≤ r) : 0 ≤ hcL r y ∧ hcL r y ≤ hcH r y ∧ hcH r y ≤ r := by
  have := hc_bd r y hr
  omega
/-- the nearer to the centre the greater -/
theorem hc_near (r y z : Int) (hr : 0 ≤ r) (h : max y (-y) ≤ max z (-z)) : hcL r z ≤ hcL r y ∧ hcH r z ≤ hcH r y := by
  rw [(hc_abs r y).1, (hc_abs r y).2, (hc_abs r z).1, (hc_abs r z).2]
  exact hc_further r _ _ hr (by omega) h

/-! ### a strip -/
/-- the bounds of the area of a circle in a strip -/
noncomputable def ofL (r c a b : Int) : Int := (b - a) * min (2 * hcL r (a - c)) (2 * hcL r (b - c))
noncomputable def ofH (r c a b : Int) : Int := (b - a) * (if a ≤ c ∧ c ≤ b then 2 * r else max (2 * hcH r (a - c)) (2 * hcH r (b - c)))
theorem wid_mono {w x y : Int} (hw : 0 ≤ w) (h : x ≤ y) : w * x ≤ w * y := Int.mul_le_mul_of_nonneg_left h hw
theorem of_bd (r c a b : Int) (hr : 0 ≤ r) (h : a ≤ b) : 0 ≤ ofL r c a b ∧ ofL r c a b ≤ ofH r c a b ∧ ofH r c a b ≤ (b - a) * (2 * r) := by
  have h1 := hc_le r (a - c) hr
  have h2 := hc_le r (b - c) hr
  unfold ofL ofH
  refine ⟨Int.mul_nonneg (by omega) (by omega), wid_mono (by omega) ?_, wid_mono (by omega) ?_⟩ <;> split <;> omega
/-- a greater radius -/
theorem of_wider (r s c a b : Int) (hr : 0 ≤ r) (hs : r ≤ s) (h : a ≤ b) : ofL r c a b ≤ ofL s c a b ∧ ofH r c a b ≤ ofH s c a b := by
  have h1 := hc_wider r s (a - c) hr hs
  have h2 := hc_wider r s (b - c) hr hs
  unfold ofL ofH
  refine ⟨wid_mono (by omega) (by omega), wid_mono (by omega) ?_⟩
  split <;> omega
/-- a strip that is cut in two -/
theorem of_cut (r c a m b : Int) (hr : 0 ≤ r) (h1 : a ≤ m) (h2 : m ≤ b) : ofL r c a b ≤ ofL r c a m + ofL r c m b ∧ ofH r c a m + ofH r c m b ≤ ofH r c a b := by
  have ha := hc_le r (a - c) hr
  have hb := hc_le r (b - c) hr
  have hm := hc_le r (m - c) hr
  -- the lesser chord: m is no further from the centre than one of both ends
  have hlow : min (2 * hcL r (a - c)) (2 * hcL r (b - c)) ≤ 2 * hcL r (m - c) := by
    by_cases h : max (m - c) (-(m - c)) ≤ max (a - c) (-(a - c))
    · have := (hc_near r (m - c) (a - c) hr h).1; omega
    · have := (hc_near r (m - c) (b - c) hr (by omega)).1; omega
  have e : ∀ x : Int, (b - a) * x = (m - a) * x + (b - m) * x := fun x => by rw [← Int.add_mul]; congr 1; omega
  constructor
  · unfold ofL
    rw [e]
    have q1 := wid_mono (w := m - a) (by omega) (show min (2 * hcL r (a - c)) (2 * hcL r (b - c)) ≤ min (2 * hcL r (a - c)) (2 * hcL r (m - c)) by omega)
    have q2 := wid_mono (w := b - m) (by omega) (show min (2 * hcL r (a - c)) (2 * hcL r (b - c)) ≤ min (2 * hcL r (m - c)) (2 * hcL r (b - c)) by omega)
    omega
  · unfold ofH
    rw [e]
    have q1 := wid_mono (w := m - a) (by omega) (show (if a ≤ c ∧ c ≤ m then 2 * r else max (2 * hcH r (a - c)) (2 * hcH r (m - c))) ≤ (if a ≤ c ∧ c ≤ b then 2 * r else max (2 * hcH r (a - c)) (2 * hcH r (b - c))) by
      by_cases hc : a ≤ c ∧ c ≤ b
      · rw [if_pos hc]; split <;> omega
      · rw [if_neg hc, if_neg (by omega)]
        by_cases h : max (a - c) (-(a - c)) ≤ max (m - c) (-(m - c))
        · have := (hc_near r (a - c) (m - c) hr h).2; omega
        · have := (hc_near r (b - c) (m - c) hr (by omega)).2; omega)
    have q2 := wid_mono (w := b - m) (by omega) (show (if m ≤ c ∧ c ≤ b then 2 * r else max (2 * hcH r (m - c)) (2 * hcH r (b - c))) ≤ (if a ≤ c ∧ c ≤ b then 2 * r else max (2 * hcH r (a - c)) (2 * hcH r (b - c))) by
      by_cases hc : a ≤ c ∧ c ≤ b
      · rw [if_pos hc]; split <;> omega
      · rw [if_neg hc, if_neg (by omega)]
        by_cases h : max (a - c) (-(a - c)) ≤ max (m - c) (-(m - c))
        · have := (hc_near r (a - c) (m - c) hr h).2; omega
        · have := (hc_near r (b - c) (m - c) hr (by omega)).2; omega)
    omega

/-! ### heights -/
/-- the first error of heights -/
def hB (n : Int) : Bool := decide (0 ≤ n) && decide (n ≤ 200000)
def ascB (l : List Int) : Bool := (List.range (l.length - 1)).all fun i => decide (l.getD i 0 ≤ l.getD (i + 1) 0)
def hcE (l : List Int) : Int := if l.length < 2 then 9 else if 65 < l.length then 8 else if l.all hB = false then 2 else if ascB l = false then 5 else 0
structure HR (l : List Int) : Prop where
  n0 : 2 ≤ l.length
  n1 : l.length ≤ 65
  bd : ∀ i, i < l.length → 0 ≤ l.getD i 0 ∧ l.getD i 0 ≤ 200000
  asc : ∀ i, i + 1 < l.length → l.getD i 0 ≤ l.getD (i + 1) 0
theorem ascB_iff (l : List Int) : ascB l = true ↔ ∀ i, i + 1 < l.length → l.getD i 0 ≤ l.getD (i + 1) 0 := by
  unfold ascB
  rw [List.all_eq_true]
  constructor
  · intro h i hi
    have := h i (List.mem_range.2 (by omega))
    simpa using this
  · intro h i hi
    have := h i (by have := List.mem_range.1 hi; omega)
    simpa using this
theorem allB_iff (l : List Int) : l.all hB = true ↔ ∀ i, i < l.length → 0 ≤ l.getD i 0 ∧ l.getD i 0 ≤ 200000 := by
  rw [List.all_eq_true]
  constructor
  · intro h i hi
    have := h (l.getD i 0) (by rw [List.getD_eq_getElem?_getD, List.getElem?_eq_getElem hi]; exact List.getElem_mem hi)
    simpa [hB] using this
  · intro h x hx
    obtain ⟨i, hi, rfl⟩ := List.getElem_of_mem hx
    have := h i hi
    rw [List.getD_eq_getElem?_getD, List.getElem?_eq_getElem hi] at this
    simpa [hB] using this
theorem hcE_iff (l : List Int) : hcE l = 0 ↔ HR l := by
  unfold hcE
  constructor
  · intro h
    split at h
    · omega
    · split at h
      · omega
      · split at h
        · omega
        · split at h
          · omega
          · rename_i g1 g2 g3 g4
            exact ⟨by omega, by omega, (allB_iff l).1 (by simpa using g3), (ascB_iff l).1 (by simpa using g4)⟩
  · intro h
    rw [if_neg (by have := h.n0; omega), if_neg (by have := h.n1; omega), if_neg (by rw [(allB_iff l).2 h.bd]; simp), if_neg (by rw [(ascB_iff l).2 h.asc]; simp)]

/-! ### sums over strips -/
noncomputable def prL (r c : Int) (l : List Int) : Nat → Int
  | 0 => 0
  | k + 1 => prL r c l k + ofL r c (l.getD k 0) (l.getD (k + 1) 0)
noncomputable def prH (r c : Int) (l : List Int) : Nat → Int
  | 0 => 0
  | k + 1 => prH r c l k + ofH r c (l.getD k 0) (l.getD (k + 1) 0)
theorem pr_bd {r c : Int} {l : List Int} (hr : 0 ≤ r) (h : HR l) (k : Nat) (hk : k < l.length) : 0 ≤ prL r c l k ∧ prL r c l k ≤ prH r c l k ∧ prH r c l k ≤ (l.getD k 0 - l.getD 0 0) * (2 * r) := by
  induction k with
  | zero => simp [prL, prH]
  | succ k ih =>
    obtain ⟨i1, i2, i3⟩ := ih (by omega)
    obtain ⟨b1, b2, b3⟩ := of_bd r c _ _ hr (h.asc k hk)
    have e : (l.getD (k + 1) 0 - l.getD 0 0) * (2 * r) = (l.getD k 0 - l.getD 0 0) * (2 * r) + (l.getD (k + 1) 0 - l.getD k 0) * (2 * r) := by
      rw [← Int.add_mul]; congr 1; omega
    rw [e]
    show 0 ≤ prL r c l k + _ ∧ prL r c l k + _ ≤ prH r c l k + _ ∧ prH r c l k + _ ≤ _
    omega
theorem pr_le {r c : Int} {l : List Int} (hr : 0 ≤ r) (hr2 : r ≤ 100000) (h : HR l) (k : Nat) (hk : k < l.length) : 0 ≤ prL r c l k ∧ prL r c l k ≤ prH r c l k ∧ prH r c l k ≤ 40000000000 := by
  obtain ⟨b1, b2, b3⟩ := pr_bd (c := c) hr h k hk
  have q1 := h.bd k hk
  have q2 := h.bd 0 (by omega)
  have q3 : (l.getD k 0 - l.getD 0 0) * (2 * r) ≤ 200000 * 200000 := by
    by_cases hn : 0 ≤ l.getD k 0 - l.getD 0 0
    · exact Int.mul_le_mul (by omega) (by omega) (by omega) (by omega)
    · have := Int.mul_le_mul_of_nonneg_right (show l.getD k 0 - l.getD 0 0 ≤ 0 by omega) (show 0 ≤ 2 * r by omega)
      omega
  omega
theorem pr_wider {r s c : Int} {l : List Int} (hr : 0 ≤ r) (hs : r ≤ s) (h : HR l) (k : Nat) (hk : k < l.length) : prL r c l k ≤ prL s c l k ∧ prH r c l k ≤ prH s c l k := by
  induction k with
  | zero => simp [prL, prH]
  | succ k ih =>
    have i := ih (by omega)
    have b := of_wider r s c _ _ hr hs (h.asc k hk)
    show prL r c l k + _ ≤ prL s c l k + _ ∧ prH r c l k + _ ≤ prH s c l k + _
    omega
/-- sums look at the first heights alone -/
theorem pr_same {r c : Int} {l m : List Int} (k : Nat) (h : ∀ i, i ≤ k → l.getD i 0 = m.getD i 0) : prL r c l k = prL r c m k ∧ prH r c l k = prH r c m k := by
  induction k with
  | zero => simp [prL, prH]
  | succ k ih =>
    have i := ih (fun i hi => h i (by omega))
    unfold prL prH
    rw [i.1, i.2, h k (by omega), h (k + 1) (by omega)]
    exact ⟨rfl, rfl⟩
/-- sums from a height on -/
theorem pr_from {r c : Int} {l m : List Int} (k : Nat) (n : Nat) (h : ∀ i, i ≤ n → m.getD i 0 = l.getD (k + i) 0) : prL r c l (k + n) = prL r c l k + prL r c m n ∧ prH r c l (k + n) = prH r c l k + prH r c m n := by
  induction n with
  | zero => simp [prL, prH]
  | succ n ih =>
    have i := ih (fun i hi => h i (by omega))
    show prL r c l (k + n) + ofL r c (l.getD (k + n) 0) (l.getD (k + n + 1) 0) = prL r c l k + (prL r c m n + ofL r c (m.getD n 0) (m.getD (n + 1) 0)) ∧ prH r c l (k + n) + ofH r c (l.getD (k + n) 0) (l.getD (k + n + 1) 0) = prH r c l k + (prH r c m n + ofH r c (m.getD n 0) (m.getD (n + 1) 0))
    rw [h n (by omega), h (n + 1) (by omega), i.1, i.2, show k + (n + 1) = k + n + 1 by omega]
    omega
/-- m has, between each two heights of l, one more -/
theorem pr_finer {r c : Int} {l m : List Int} (hr : 0 ≤ r) (h : HR l) (h1 : ∀ i, i < l.length → m.getD (2 * i) 0 = l.getD i 0) (h2 : ∀ i, i + 1 < l.length → l.getD i 0 ≤ m.getD (2 * i + 1) 0 ∧ m.getD (2 * i + 1) 0 ≤ l.getD (i + 1) 0) (k : Nat) (hk : k < l.length) :
    prL r c l k ≤ prL r c m (2 * k) ∧ prH r c m (2 * k) ≤ prH r c l k := by
  induction k with
  | zero => simp [prL, prH]
  | succ k ih =>
    have i := ih (by omega)
    have g := h2 k hk
    have b := of_cut r c _ _ _ hr g.1 g.2
    have e0 := h1 k (by omega)
    have e1 := h1 (k + 1) hk
    rw [show 2 * (k + 1) = 2 * k + 1 + 1 by omega] at e1 ⊢
    show prL r c l k + _ ≤ prL r c m (2 * k) + ofL r c (m.getD (2 * k) 0) (m.getD (2 * k + 1) 0) + ofL r c (m.getD (2 * k + 1) 0) (m.getD (2 * k + 1 + 1) 0) ∧ prH r c m (2 * k) + ofH r c (m.getD (2 * k) 0) (m.getD (2 * k + 1) 0) + ofH r c (m.getD (2 * k + 1) 0) (m.getD (2 * k + 1 + 1) 0) ≤ prH r c l k + _
    rw [e0, e1]
    omega
end Go.Proofs.Ytlofblpfohnooaa
