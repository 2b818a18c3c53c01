/- Plain facts of layers 16 and 17: right rows, first faults. No program stands in this text. -/
import Derived.Test.YtfpdanjhlepckaaDoorQL0
namespace Go.Proofs.YtfpdanjhlepckaaDoor

/-- the first place below n at which p holds; n if there is none -/
def fst (p : Nat → Bool) : Nat → Nat
  | 0 => 0
  | n + 1 => if fst p n < n then fst p n else if p n then n else n + 1
theorem fst_le (p : Nat → Bool) (n : Nat) : fst p n ≤ n := by
  induction n with
  | zero => exact Nat.le_refl _
  | succ n ih => unfold fst; split <;> (try split) <;> omega
theorem fst_spec (p : Nat → Bool) (n : Nat) : (∀ j, j < fst p n → p j = false) ∧ (fst p n < n → p (fst p n) = true) := by
  induction n with
  | zero => exact ⟨fun j hj => by simp [fst] at hj, fun h => by omega⟩
  | succ n ih =>
    obtain ⟨i1, i2⟩ := ih
    have le := fst_le p n
    unfold fst
    by_cases h : fst p n < n
    · rw [if_pos h]; exact ⟨i1, fun _ => i2 h⟩
    · rw [if_neg h]
      have e : fst p n = n := by omega
      rw [e] at i1
      cases hp : p n with
      | true => simp only [if_true]; exact ⟨i1, fun _ => hp⟩
      | false =>
        simp only [Bool.false_eq_true, if_false]
        refine ⟨fun j hj => ?_, fun h => by omega⟩
        by_cases g : j = n
        · rw [g]; exact hp
        · exact i1 j (by omega)
theorem fst_is {p : Nat → Bool} {n k : Nat} (hk : k ≤ n) (h1 : ∀ j, j < k → p j = false) (h2 : k < n → p k = true) : fst p n = k := by
  obtain ⟨s1, s2⟩ := fst_spec p n
  have le := fst_le p n
  rcases Nat.lt_trichotomy (fst p n) k with h | h | h
  · have := h1 _ h; have := s2 (by omega); simp_all
  · exact h
  · have := s1 _ h; have := h2 (by omega); simp_all
theorem fst_iff {p : Nat → Bool} {n : Nat} (hm : ∀ a b, a ≤ b → b < n → p a = true → p b = true) {i : Nat} (hi : i < n) : p i = true ↔ fst p n ≤ i := by
  obtain ⟨s1, s2⟩ := fst_spec p n
  constructor
  · intro h
    rcases Nat.lt_or_ge i (fst p n) with g | g
    · rw [s1 i g] at h; cases h
    · exact g
  · intro h
    exact hm _ i h hi (s2 (by omega))


theorem bel_drew2 (w : World) (a b : Nat) : Go.RowKit.Below w.heap.size w ((w.drewN a).drewN b) := ⟨rfl, rfl, rfl, Nat.le_refl _, fun _ _ => rfl⟩
def outB (x r : Int) : Bool := decide (x < 0) || decide (10000 < x) || decide (r < 50000) || decide (120000 < r)
theorem outB_false {x r : Int} : outB x r = false ↔ (0 ≤ x ∧ x ≤ 10000 ∧ 50000 ≤ r ∧ r ≤ 120000) := by
  simp only [outB, Bool.or_eq_false_iff, decide_eq_false_iff_not]; omega
/-- the fault of a measured row -/
def auF (l : List (Int × Int)) (k : Nat) : Int := if outB (gX l k) (gR l k) = true then 2 else if k ≠ 0 ∧ gX l k < gX l (k - 1) then 5 else 0
def auK (l : List (Int × Int)) : Nat := fst (fun k => auF l k != 0) l.length
def auE (l : List (Int × Int)) : Int := if 128 < l.length then 8 else if l.length = 0 then 9 else if auK l < l.length then auF l (auK l) else 0
def auI (l : List (Int × Int)) : Int := if 128 < l.length then -1 else if l.length = 0 then -1 else if auK l < l.length then (auK l : Int) else -1
structure AR (l : List (Int × Int)) : Prop where
  n0 : 1 ≤ l.length
  n1 : l.length ≤ 128
  b : ∀ i, i < l.length → 0 ≤ gX l i ∧ gX l i ≤ 10000 ∧ 50000 ≤ gR l i ∧ gR l i ≤ 120000
  asc : ∀ i, i + 1 < l.length → gX l i ≤ gX l (i + 1)
theorem auF_zero {l : List (Int × Int)} {k : Nat} : auF l k = 0 ↔ ((0 ≤ gX l k ∧ gX l k ≤ 10000 ∧ 50000 ≤ gR l k ∧ gR l k ≤ 120000) ∧ (k ≠ 0 → gX l (k - 1) ≤ gX l k)) := by
  unfold auF
  cases h : outB (gX l k) (gR l k) with
  | true => 
    simp only [if_true]
    constructor
    · intro h; cases h
    · rintro ⟨h1, _⟩
      rw [outB_false.2 h1] at h; cases h
  | false =>
    have := outB_false.1 h
    simp only [Bool.false_eq_true, if_false]
    by_cases g : k ≠ 0 ∧ gX l k < gX l (k - 1)
    · rw [if_pos g]
      constructor
      · intro h; cases h
      · rintro ⟨_, h2⟩
        have := h2 g.1; omega
    · rw [if_neg g]
      refine ⟨fun _ => ⟨this, fun hk => ?_⟩, fun _ => rfl⟩
      rcases Int.lt_or_le (gX l k) (gX l (k - 1)) with h' | h'
      · exact absurd ⟨hk, h'⟩ g
      · exact h'
theorem auE_zero {l : List (Int × Int)} : auE l = 0 ↔ AR l := by
  obtain ⟨s1, s2⟩ := fst_spec (fun k => auF l k != 0) l.length
  have le := fst_le (fun k => auF l k != 0) l.length
  unfold auE
  by_cases h0 : 128 < l.length
  · rw [if_pos h0]
    exact ⟨fun h => (by cases h), fun h => by have := h.n1; omega⟩
  · rw [if_neg h0]
    by_cases h1 : l.length = 0
    · rw [if_pos h1]
      exact ⟨fun h => (by cases h), fun h => by have := h.n0; omega⟩
    · rw [if_neg h1]
      by_cases h2 : auK l < l.length
      · rw [if_pos h2]
        have h3 := s2 h2
        constructor
        · intro h
          have : auF l (fst (fun k => auF l k != 0) l.length) = 0 := h
          rw [this] at h3
          cases h3
        · intro h
          refine auF_zero.2 ⟨h.b _ h2, fun hk => ?_⟩
          have := h.asc (auK l - 1) (by omega)
          rwa [show auK l - 1 + 1 = auK l by omega] at this
      · rw [if_neg h2]
        have e : fst (fun k => auF l k != 0) l.length = l.length := by unfold auK at h2; omega
        rw [e] at s1
        have z : ∀ j, j < l.length → auF l j = 0 := fun j hj => by simpa using s1 j hj
        refine ⟨fun _ => ⟨by omega, by omega, fun i hi => (auF_zero.1 (z i hi)).1, fun i hi => ?_⟩, fun _ => rfl⟩
        have := (auF_zero.1 (z (i + 1) hi)).2 (by omega)
        simpa using this
theorem auE_at {l : List (Int × Int)} {k : Nat} (h0 : l.length ≤ 128) (hk : k < l.length) (h1 : ∀ j, j < k → auF l j = 0) (h2 : auF l k ≠ 0) : auE l = auF l k ∧ auI l = k := by
  have e : auK l = k := fst_is (by omega) (fun j hj => by simpa using h1 j hj) (fun _ => by simpa using h2)
  unfold auE auI
  simp only [if_neg (show ¬ 128 < l.length by omega), if_neg (show ¬ l.length = 0 by omega), e, if_pos hk]
  exact ⟨trivial, trivial⟩
theorem auE_ok {l : List (Int × Int)} (h0 : l.length ≤ 128) (h3 : l.length ≠ 0) (h1 : ∀ j, j < l.length → auF l j = 0) : auE l = 0 ∧ auI l = -1 := by
  have e : auK l = l.length := fst_is (by omega) (fun j hj => by simpa using h1 j hj) (fun h => by omega)
  unfold auE auI
  simp only [if_neg (show ¬ 128 < l.length by omega), if_neg h3, e, if_neg (show ¬ l.length < l.length by omega)]
  exact ⟨trivial, trivial⟩

/-! ### right density tables -/
def dnF (l : List (Int × Int)) (k : Nat) : Int := if outB (gX l k) (gR l k) = true then 2 else if k ≠ 0 ∧ gX l k ≤ gX l (k - 1) then 5 else if k ≠ 0 ∧ gR l (k - 1) < gR l k then 18 else 0
def dnK (l : List (Int × Int)) : Nat := fst (fun k => dnF l k != 0) l.length
def dnE (l : List (Int × Int)) : Int := if 128 < l.length then 8 else if l.length < 2 then 9 else if dnK l < l.length then dnF l (dnK l) else if gX l 0 ≠ 0 then 10 else if gX l (l.length - 1) ≠ 10000 then 10 else 0
def dnI (l : List (Int × Int)) : Int := if 128 < l.length then -1 else if l.length < 2 then -1 else if dnK l < l.length then (dnK l : Int) else if gX l 0 ≠ 0 then 0 else if gX l (l.length - 1) ≠ 10000 then ((l.length - 1 : Nat) : Int) else -1
structure DR (l : List (Int × Int)) : Prop where
  n0 : 2 ≤ l.length
  n1 : l.length ≤ 128
  b : ∀ i, i < l.length → 0 ≤ gX l i ∧ gX l i ≤ 10000 ∧ 50000 ≤ gR l i ∧ gR l i ≤ 120000
  asc : ∀ i, i + 1 < l.length → gX l i < gX l (i + 1)
  down : ∀ i, i + 1 < l.length → gR l (i + 1) ≤ gR l i
  z : gX l 0 = 0
  t : gX l (l.length - 1) = 10000
theorem dnF_zero {l : List (Int × Int)} {k : Nat} : dnF l k = 0 ↔ ((0 ≤ gX l k ∧ gX l k ≤ 10000 ∧ 50000 ≤ gR l k ∧ gR l k ≤ 120000) ∧ (k ≠ 0 → gX l (k - 1) < gX l k) ∧ (k ≠ 0 → gR l k ≤ gR l (k - 1))) := by
  unfold dnF
  cases h : outB (gX l k) (gR l k) with
  | true => 
    simp only [if_true]
    constructor
    · intro h; cases h
    · rintro ⟨h1, _⟩
      rw [outB_false.2 h1] at h; cases h
  | false =>
    have := outB_false.1 h
    simp only [Bool.false_eq_true, if_false]
    by_cases g : k ≠ 0 ∧ gX l k ≤ gX l (k - 1)
    · rw [if_pos g]
      constructor
      · intro h; cases h
      · rintro ⟨_, h2, _⟩
        have := h2 g.1; omega
    · rw [if_neg g]
      by_cases g2 : k ≠ 0 ∧ gR l (k - 1) < gR l k
      · rw [if_pos g2]
        constructor
        · intro h; cases h
        · rintro ⟨_, _, h2⟩
          have := h2 g2.1; omega
      · rw [if_neg g2]
        refine ⟨fun _ => ⟨this, fun hk => ?_, fun hk => ?_⟩, fun _ => rfl⟩
        · rcases Int.lt_or_le (gX l (k - 1)) (gX l k) with h' | h'
          · exact h'
          · exact absurd ⟨hk, h'⟩ g
        · rcases Int.lt_or_le (gR l (k - 1)) (gR l k) with h' | h'
          · exact absurd ⟨hk, h'⟩ g2
          · exact h'
theorem dnE_at {l : List (Int × Int)} {k : Nat} (h0 : l.length ≤ 128) (h3 : 2 ≤ l.length) (hk : k < l.length) (h1 : ∀ j, j < k → dnF l j = 0) (h2 : dnF l k ≠ 0) : dnE l = dnF l k ∧ dnI l = k := by
  have e : dnK l = k := fst_is (by omega) (fun j hj => by simpa using h1 j hj) (fun _ => by simpa using h2)
  unfold dnE dnI
  simp only [if_neg (show ¬ 128 < l.length by omega), if_neg (show ¬ l.length < 2 by omega), e, if_pos hk]
  exact ⟨trivial, trivial⟩
theorem dnE_ok {l : List (Int × Int)} (h0 : l.length ≤ 128) (h3 : 2 ≤ l.length) (h1 : ∀ j, j < l.length → dnF l j = 0) :
    (gX l 0 ≠ 0 → dnE l = 10 ∧ dnI l = 0) ∧ (gX l 0 = 0 → gX l (l.length - 1) ≠ 10000 → dnE l = 10 ∧ dnI l = ((l.length - 1 : Nat) : Int)) ∧ (gX l 0 = 0 → gX l (l.length - 1) = 10000 → dnE l = 0 ∧ dnI l = -1) := by
  have e : dnK l = l.length := fst_is (by omega) (fun j hj => by simpa using h1 j hj) (fun h => by omega)
  unfold dnE dnI
  simp only [if_neg (show ¬ 128 < l.length by omega), if_neg (show ¬ l.length < 2 by omega), e, if_neg (show ¬ l.length < l.length by omega)]
  refine ⟨fun h => ?_, fun h g => ?_, fun h g => ?_⟩
  · simp only [if_pos h]; exact ⟨trivial, trivial⟩
  · simp only [if_neg (show ¬ gX l 0 ≠ 0 by omega), if_pos g]; exact ⟨trivial, trivial⟩
  · simp only [if_neg (show ¬ gX l 0 ≠ 0 by omega), if_neg (show ¬ gX l (l.length - 1) ≠ 10000 by omega)]; exact ⟨trivial, trivial⟩
theorem dnE_zero {l : List (Int × Int)} : dnE l = 0 ↔ DR l := by
  obtain ⟨s1, s2⟩ := fst_spec (fun k => dnF l k != 0) l.length
  have le := fst_le (fun k => dnF l k != 0) l.length
  constructor
  · intro h
    by_cases h0 : 128 < l.length
    · unfold dnE at h; rw [if_pos h0] at h; cases h
    by_cases h1 : l.length < 2
    · unfold dnE at h; rw [if_neg h0, if_pos h1] at h; cases h
    by_cases h2 : fst (fun k => dnF l k != 0) l.length < l.length
    · have h3 := s2 h2
      have := (dnE_at (by omega) (by omega) h2 (fun j hj => by simpa using s1 j hj) (by simpa using h3)).1
      rw [h] at this
      rw [← this] at h3
      cases h3
    · have e : fst (fun k => dnF l k != 0) l.length = l.length := by omega
      rw [e] at s1
      have z : ∀ j, j < l.length → dnF l j = 0 := fun j hj => by simpa using s1 j hj
      obtain ⟨g1, g2, g3⟩ := dnE_ok (by omega) (by omega) z
      refine ⟨by omega, by omega, fun i hi => (dnF_zero.1 (z i hi)).1, fun i hi => ?_, fun i hi => ?_, ?_, ?_⟩
      · have := (dnF_zero.1 (z (i + 1) hi)).2.1 (by omega)
        simpa using this
      · have := (dnF_zero.1 (z (i + 1) hi)).2.2 (by omega)
        simpa using this
      · rcases Decidable.em (gX l 0 = 0) with q | q
        · exact q
        · have := (g1 q).1; omega
      · rcases Decidable.em (gX l 0 = 0) with q | q
        · rcases Decidable.em (gX l (l.length - 1) = 10000) with q2 | q2
          · exact q2
          · have := (g2 q q2).1; omega
        · have := (g1 q).1; omega
  · intro h
    have z : ∀ j, j < l.length → dnF l j = 0 := fun j hj => by
      refine dnF_zero.2 ⟨h.b j hj, fun hk => ?_, fun hk => ?_⟩
      · have := h.asc (j - 1) (by omega)
        rwa [show j - 1 + 1 = j by omega] at this
      · have := h.down (j - 1) (by omega)
        rwa [show j - 1 + 1 = j by omega] at this
    exact ((dnE_ok h.n1 h.n0 z).2.2 h.z h.t).1
end Go.Proofs.YtfpdanjhlepckaaDoor

