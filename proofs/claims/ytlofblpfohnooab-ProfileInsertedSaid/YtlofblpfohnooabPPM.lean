/- Plain facts of profiles: the first fault, the bung, the pieces. -/
import Derived.Test.YtlofblpfohnooabPPL
import Derived.Test.YtlofblpfohnooabPM
namespace Go.Proofs.Ytlofblpfohnooab

def lenB (n : Int) : Bool := decide (0 ≤ n) && decide (n ≤ 100000)
theorem lenB_iff (n : Int) : lenB n = true ↔ 0 ≤ n ∧ n ≤ 100000 := by simp [lenB]
def ptOut (q : Int × Int) : Bool := !(lenB q.1 && lenB q.2)
def ptCl (q : Int × Int) : Bool := q.2 == 0
/-- the X of the first k + 1 points increase -/
def adv (l : List (Int × Int)) : Nat → Bool
  | 0 => true
  | k + 1 => adv l k && decide (gX l k < gX l (k + 1))
/-- one of the first k pieces falls -/
def fal (l : List (Int × Int)) : Nat → Bool
  | 0 => false
  | k + 1 => fal l k || decide (gR l (k + 1) < gR l k)
/-- one of the first k pieces rises behind one that falls -/
def swl (l : List (Int × Int)) : Nat → Bool
  | 0 => false
  | k + 1 => swl l k || (fal l k && decide (gR l k < gR l (k + 1)))
/-- the first fault -/
def ckE (l : List (Int × Int)) : Int :=
  if l.length < 2 then 9 else if 32 < l.length then 8 else if l.any ptOut then 2 else if (adv l (l.length - 1) && (gX l 0 == 0)) = false then 5 else if l.any ptCl then 16 else if swl l (l.length - 1) then 10 else 0
/-- a right profile -/
structure RP (l : List (Int × Int)) : Prop where
  n0 : 2 ≤ l.length
  n1 : l.length ≤ 32
  bx : ∀ i, i < l.length → 0 ≤ gX l i ∧ gX l i ≤ 100000
  br : ∀ i, i < l.length → 1 ≤ gR l i ∧ gR l i ≤ 100000
  x0 : gX l 0 = 0
  asc : ∀ i, i + 1 < l.length → gX l i < gX l (i + 1)
  ns : ∀ i j, i ≤ j → j + 1 < l.length → gR l (i + 1) < gR l i → gR l (j + 1) ≤ gR l j

theorem any_of {p : Int × Int → Bool} {l : List (Int × Int)} {i : Nat} (h : i < l.length) (hp : p (l.getD i (0, 0)) = true) : l.any p = true := by
  rw [List.any_eq_true]
  rw [List.getD_eq_getElem?_getD, List.getElem?_eq_getElem h, Option.getD_some] at hp
  exact ⟨_, List.getElem_mem h, hp⟩
theorem any_not {p : Int × Int → Bool} {l : List (Int × Int)} (h : ∀ i, i < l.length → p (l.getD i (0, 0)) = false) : l.any p = false := by
  rw [List.any_eq_false]
  intro x hx
  obtain ⟨i, hi, rfl⟩ := List.getElem_of_mem hx
  have := h i hi
  rw [List.getD_eq_getElem?_getD, List.getElem?_eq_getElem hi, Option.getD_some] at this
  rw [this]; simp
theorem not_any {p : Int × Int → Bool} {l : List (Int × Int)} (h : l.any p = false) {i : Nat} (hi : i < l.length) : p (l.getD i (0, 0)) = false := by
  cases hq : p (l.getD i (0, 0)) with
  | false => rfl
  | true => rw [any_of hi hq] at h; cases h
theorem adv_iff (l : List (Int × Int)) (k : Nat) : adv l k = true ↔ ∀ i, i < k → gX l i < gX l (i + 1) := by
  induction k with
  | zero => simp [adv]
  | succ k ih =>
    rw [adv, Bool.and_eq_true, ih, decide_eq_true_eq]
    constructor
    · rintro ⟨h1, h2⟩ i hi
      by_cases e : i = k
      · rw [e]; exact h2
      · exact h1 i (by omega)
    · intro h
      exact ⟨fun i hi => h i (by omega), h k (by omega)⟩
theorem fal_iff (l : List (Int × Int)) (k : Nat) : fal l k = true ↔ ∃ i, i < k ∧ gR l (i + 1) < gR l i := by
  induction k with
  | zero => simp [fal]
  | succ k ih =>
    rw [fal, Bool.or_eq_true, ih, decide_eq_true_eq]
    constructor
    · rintro (⟨i, h1, h2⟩ | h)
      · exact ⟨i, by omega, h2⟩
      · exact ⟨k, by omega, h⟩
    · rintro ⟨i, h1, h2⟩
      by_cases e : i = k
      · right; rw [← e]; exact h2
      · left; exact ⟨i, by omega, h2⟩
theorem swl_iff (l : List (Int × Int)) (k : Nat) : swl l k = true ↔ ∃ i j, i < j ∧ j < k ∧ gR l (i + 1) < gR l i ∧ gR l j < gR l (j + 1) := by
  induction k with
  | zero => simp [swl]
  | succ k ih =>
    rw [swl, Bool.or_eq_true, ih, Bool.and_eq_true, fal_iff, decide_eq_true_eq]
    constructor
    · rintro (⟨i, j, h1, h2, h3⟩ | ⟨⟨i, h1, h2⟩, h3⟩)
      · exact ⟨i, j, h1, by omega, h3⟩
      · exact ⟨i, k, h1, by omega, h2, h3⟩
    · rintro ⟨i, j, h1, h2, h3, h4⟩
      by_cases e : j = k
      · right; rw [e] at h1 h4; exact ⟨⟨i, h1, h3⟩, h4⟩
      · left; exact ⟨i, j, h1, by omega, h3, h4⟩
theorem ckE_iff (l : List (Int × Int)) : ckE l = 0 ↔ RP l := by
  unfold ckE
  constructor
  · intro h
    split at h
    · omega
    · split at h
      · omega
      · split at h
        · omega
        · split at h
          · omega
          · split at h
            · omega
            · split at h
              · omega
              · rename_i g1 g2 g3 g4 g5 g6
                have g3' : l.any ptOut = false := by simpa using g3
                have g5' : l.any ptCl = false := by simpa using g5
                have g4' : adv l (l.length - 1) = true ∧ (gX l 0 == 0) = true := by simpa using g4
                have o : ∀ i, i < l.length → (0 ≤ gX l i ∧ gX l i ≤ 100000) ∧ 0 ≤ gR l i ∧ gR l i ≤ 100000 := fun i hi => by
                  have := not_any g3' hi
                  simp only [ptOut, Bool.not_eq_false', Bool.and_eq_true, lenB_iff] at this
                  exact this
                refine ⟨by omega, by omega, fun i hi => (o i hi).1, fun i hi => ?_, by simpa using g4'.2, fun i hi => (adv_iff _ _).1 g4'.1 i (by omega), fun i j h1 h2 h3 => ?_⟩
                · have := not_any g5' hi
                  have e : gR l i ≠ 0 := by
                    have t : (gR l i == 0) = false := this
                    simpa using t
                  have := (o i hi).2
                  omega
                · by_cases e : gR l j < gR l (j + 1)
                  · by_cases hij : i = j
                    · subst hij; omega
                    · exact absurd ((swl_iff _ _).2 ⟨i, j, by omega, by omega, h3, e⟩) g6
                  · omega
  · intro h
    have g3 : l.any ptOut = false := any_not fun i hi => by
      have a := (lenB_iff _).2 (h.bx i hi)
      have b := h.br i hi
      have b2 := (lenB_iff (gR l i)).2 (by omega)
      show (!(lenB (gX l i) && lenB (gR l i))) = false
      rw [a, b2]; rfl
    have g5 : l.any ptCl = false := any_not fun i hi => by
      have b := h.br i hi
      show (gR l i == 0) = false
      rw [beq_eq_false_iff_ne]; omega
    have g6 : ¬ swl l (l.length - 1) = true := fun hs => by
      obtain ⟨i, j, h1, h2, h3, h4⟩ := (swl_iff _ _).1 hs
      have := h.ns i j (by omega) (by omega) h3
      omega
    have g4 : (adv l (l.length - 1) && (gX l 0 == 0)) = true := by
      rw [Bool.and_eq_true]
      exact ⟨(adv_iff _ _).2 fun i hi => h.asc i (by omega), by rw [h.x0]; rfl⟩
    rw [if_neg (by have := h.n0; omega), if_neg (by have := h.n1; omega), if_neg (by rw [g3]; simp), if_neg (by rw [g4]; simp), if_neg (by rw [g5]; simp), if_neg g6]

/-! ### the bung -/
def bg (l : List (Int × Int)) : Nat → Nat
  | 0 => 0
  | k + 1 => if gR l (bg l k) < gR l k then k else bg l k
theorem bg_lt (l : List (Int × Int)) (k : Nat) : bg l k = 0 ∨ bg l k < k := by
  induction k with
  | zero => exact .inl rfl
  | succ k ih =>
    unfold bg
    split
    · right; omega
    · omega
theorem bg_max (l : List (Int × Int)) (k : Nat) : ∀ i, i < k → gR l i ≤ gR l (bg l k) := by
  induction k with
  | zero => intro i hi; omega
  | succ k ih =>
    intro i hi
    unfold bg
    by_cases h : gR l (bg l k) < gR l k
    · rw [if_pos h]
      by_cases e : i = k
      · rw [e]; exact Int.le_refl _
      · have := ih i (by omega); omega
    · rw [if_neg h]
      by_cases e : i = k
      · rw [e]; omega
      · exact ih i (by omega)
/-- what Length and Bung return -/
def lgQ (l : List (Int × Int)) : Int := if ckE l = 0 then gX l (l.length - 1) else 0
def buQ (l : List (Int × Int)) : Int := if ckE l = 0 then (bg l l.length : Int) else 0

/-! ### the piece that reaches to x -/
structure IsPc (l : List (Int × Int)) (x : Int) (i : Nat) : Prop where
  h1 : 1 ≤ i
  h2 : i < l.length
  h3 : x ≤ gX l i
  h4 : ∀ j, 1 ≤ j → j < i → gX l j < x
theorem IsPc.one {l : List (Int × Int)} {x : Int} {i j : Nat} (a : IsPc l x i) (b : IsPc l x j) : i = j := by
  rcases Nat.lt_trichotomy i j with h | h | h
  · have := b.h4 i a.h1 h; have := a.h3; omega
  · exact h
  · have := a.h4 j b.h1 h; have := b.h3; omega
theorem pc_ex {l : List (Int × Int)} {x : Int} (n0 : 2 ≤ l.length) (h : x ≤ gX l (l.length - 1)) : ∃ i, IsPc l x i := by
  suffices ∀ k, 1 ≤ k → k < l.length → x ≤ gX l k → ∃ i, IsPc l x i from this (l.length - 1) (by omega) (by omega) h
  intro k
  induction k with
  | zero => intro h; omega
  | succ k ih =>
    intro _ h2 h3
    by_cases hk : 1 ≤ k ∧ x ≤ gX l k
    · exact ih hk.1 (by omega) hk.2
    · by_cases he : ∃ j, 1 ≤ j ∧ j < k + 1 ∧ x ≤ gX l j
      · obtain ⟨j, j1, j2, j3⟩ := he
        have : ∀ m, ∀ j, j ≤ m → 1 ≤ j → j < l.length → x ≤ gX l j → ∃ i, IsPc l x i := by
          intro m
          induction m with
          | zero => intro j h1 h2; omega
          | succ m im =>
            intro j h1 h2 h3 h4
            by_cases hc : ∃ i, 1 ≤ i ∧ i < j ∧ x ≤ gX l i
            · obtain ⟨i, i1, i2, i3⟩ := hc
              exact im i (by omega) i1 (by omega) i3
            · exact ⟨j, h2, h3, h4, fun i i1 i2 => by
                by_cases hi : x ≤ gX l i
                · exact absurd ⟨i, i1, i2, hi⟩ hc
                · omega⟩
        exact this j j (Nat.le_refl _) j1 (by omega) j3
      · exact ⟨k + 1, by omega, h2, h3, fun j j1 j2 => by
          by_cases hj : x ≤ gX l j
          · exact absurd ⟨j, j1, j2, hj⟩ he
          · omega⟩
open Classical in
noncomputable def pc (l : List (Int × Int)) (x : Int) : Nat := if h : ∃ i, IsPc l x i then h.choose else 0
theorem pc_is {l : List (Int × Int)} {x : Int} (n0 : 2 ≤ l.length) (h : x ≤ gX l (l.length - 1)) : IsPc l x (pc l x) := by
  have he := pc_ex n0 h
  unfold pc
  rw [dif_pos he]
  exact he.choose_spec
theorem pc_of {l : List (Int × Int)} {x : Int} {i : Nat} (h : IsPc l x i) : pc l x = i := by
  have he : ∃ i, IsPc l x i := ⟨i, h⟩
  unfold pc
  rw [dif_pos he]
  exact he.choose_spec.one h
/-- the radius between two points, rounded down and up -/
def lnL (a p b q x : Int) : Int := lnN a p b q x / (b - a)
def lnH (a p b q x : Int) : Int := cdv (lnN a p b q x) (b - a)
noncomputable def rdL (l : List (Int × Int)) (x : Int) : Int := lnL (gX l (pc l x - 1)) (gR l (pc l x - 1)) (gX l (pc l x)) (gR l (pc l x)) x
noncomputable def rdH (l : List (Int × Int)) (x : Int) : Int := lnH (gX l (pc l x - 1)) (gR l (pc l x - 1)) (gX l (pc l x)) (gR l (pc l x)) x
/-- what place and At return -/
def plE (l : List (Int × Int)) (x : Int) : Int := if ckE l = 0 then (if x < 0 ∨ gX l (l.length - 1) < x then 2 else 0) else 1
noncomputable def atL (l : List (Int × Int)) (x : Int) : Int := if plE l x = 0 then rdL l x else 0
noncomputable def atH (l : List (Int × Int)) (x : Int) : Int := if plE l x = 0 then rdH l x else 0
end Go.Proofs.Ytlofblpfohnooab
