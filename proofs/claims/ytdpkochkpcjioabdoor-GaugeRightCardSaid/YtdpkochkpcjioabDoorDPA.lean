/- Plain facts of layer 13: right tables, the volume at a height, the heights of a volume. No program stands in this text. -/
import Derived.Test.YtdpkochkpcjioabDoorPPL0
namespace Go.Proofs.YtdpkochkpcjioabDoor

/-- the first place below n at which p holds; n if there is none -/
def fst (p : Nat → Bool) : Nat → Nat
  | 0 => 0
  | n + 1 => if fst p n < n then fst p n else if p n then n else n + 1
theorem fst_le (p : Nat → Bool) (n : Nat) : fst p n ≤ n := by
  induction n with
  | zero => exact Nat.le_refl _
  | succ n ih => unfold fst; split <;> (try split) <;> omega
theorem fst_spec (p : Nat → Bool) (n : Nat) : (∀ j, j < fst p n → p j = false) ∧ (fst p n < n → p (fst p n) = true) := by
  induction n with
  | zero => exact ⟨fun j hj => by simp [fst] at hj, fun h => by omega⟩
  | succ n ih =>
    obtain ⟨i1, i2⟩ := ih
    have le := fst_le p n
    unfold fst
    by_cases h : fst p n < n
    · rw [if_pos h]; exact ⟨i1, fun _ => i2 h⟩
    · rw [if_neg h]
      have e : fst p n = n := by omega
      rw [e] at i1
      cases hp : p n with
      | true => simp only [if_true]; exact ⟨i1, fun _ => hp⟩
      | false =>
        simp only [Bool.false_eq_true, if_false]
        refine ⟨fun j hj => ?_, fun h => by omega⟩
        by_cases g : j = n
        · rw [g]; exact hp
        · exact i1 j (by omega)
theorem fst_is {p : Nat → Bool} {n k : Nat} (hk : k ≤ n) (h1 : ∀ j, j < k → p j = false) (h2 : k < n → p k = true) : fst p n = k := by
  obtain ⟨s1, s2⟩ := fst_spec p n
  have le := fst_le p n
  rcases Nat.lt_trichotomy (fst p n) k with h | h | h
  · have := h1 _ h; have := s2 (by omega); simp_all
  · exact h
  · have := s1 _ h; have := h2 (by omega); simp_all
theorem fst_iff {p : Nat → Bool} {n : Nat} (hm : ∀ a b, a ≤ b → b < n → p a = true → p b = true) {i : Nat} (hi : i < n) : p i = true ↔ fst p n ≤ i := by
  obtain ⟨s1, s2⟩ := fst_spec p n
  constructor
  · intro h
    rcases Nat.lt_or_ge i (fst p n) with g | g
    · rw [s1 i g] at h; cases h
    · exact g
  · intro h
    exact hm _ i h hi (s2 (by omega))

/-- a right table -/
structure MR (l : List (Int × Int)) : Prop where
  n0 : 2 ≤ l.length
  n1 : l.length ≤ 128
  bh : ∀ i, i < l.length → 0 ≤ gX l i ∧ gX l i ≤ 200000
  bv : ∀ i, i < l.length → 0 ≤ gR l i ∧ gR l i ≤ 4294967296
  asc : ∀ i, i + 1 < l.length → gX l i < gX l (i + 1)
  up : ∀ i, i + 1 < l.length → gR l i ≤ gR l (i + 1)
def mkOut (q : Int × Int) : Bool := decide (q.1 < 0) || decide (200000 < q.1) || decide (q.2 < 0) || decide (4294967296 < q.2)
/-- the first k + 1 marks rise -/
def risB (l : List (Int × Int)) : Nat → Bool
  | 0 => true
  | k + 1 => risB l k && (decide (gX l k < gX l (k + 1)) && decide (gR l k ≤ gR l (k + 1)))
theorem risB_iff (l : List (Int × Int)) (k : Nat) : risB l k = true ↔ ∀ i, i < k → gX l i < gX l (i + 1) ∧ gR l i ≤ gR l (i + 1) := by
  induction k with
  | zero => simp [risB]
  | succ k ih =>
    rw [risB, Bool.and_eq_true, ih, Bool.and_eq_true, decide_eq_true_eq, decide_eq_true_eq]
    constructor
    · rintro ⟨h1, h2⟩ i hi
      by_cases e : i = k
      · rw [e]; exact h2
      · exact h1 i (by omega)
    · intro h
      exact ⟨fun i hi => h i (by omega), h k (by omega)⟩
/-- the first error of a table -/
def tbE (l : List (Int × Int)) (tol : Int) : Int :=
  if l.length < 2 then 9 else if 128 < l.length then 8 else if (decide (tol < 0) || decide (4294967296 < tol) || l.any mkOut) = true then 2 else if risB l (l.length - 1) = false then 5 else 0
theorem anyq_at {p : Int × Int → Bool} {l : List (Int × Int)} : l.any p = true ↔ ∃ i, i < l.length ∧ p (l.getD i (0, 0)) = true := by
  rw [List.any_eq_true]
  constructor
  · rintro ⟨x, hx, hp⟩
    obtain ⟨i, hi, rfl⟩ := List.getElem_of_mem hx
    exact ⟨i, hi, by rw [List.getD_eq_getElem?_getD, List.getElem?_eq_getElem hi]; exact hp⟩
  · rintro ⟨i, hi, hp⟩
    rw [List.getD_eq_getElem?_getD, List.getElem?_eq_getElem hi, Option.getD_some] at hp
    exact ⟨_, List.getElem_mem hi, hp⟩
theorem mkOut_not {q : Int × Int} : mkOut q = false ↔ (0 ≤ q.1 ∧ q.1 ≤ 200000) ∧ 0 ≤ q.2 ∧ q.2 ≤ 4294967296 := by
  unfold mkOut
  rw [Bool.or_eq_false_iff, Bool.or_eq_false_iff, Bool.or_eq_false_iff, decide_eq_false_iff_not, decide_eq_false_iff_not, decide_eq_false_iff_not, decide_eq_false_iff_not]
  omega
theorem tbE_iff {l : List (Int × Int)} {tol : Int} : tbE l tol = 0 ↔ MR l ∧ 0 ≤ tol ∧ tol ≤ 4294967296 := by
  unfold tbE
  constructor
  · intro h
    split at h
    · omega
    · split at h
      · omega
      · split at h
        · omega
        · split at h
          · omega
          · rename_i h1 h2 h3 h4
            rw [Bool.not_eq_true, Bool.or_eq_false_iff, Bool.or_eq_false_iff, decide_eq_false_iff_not, decide_eq_false_iff_not] at h3
            obtain ⟨⟨t0, t1⟩, h3⟩ := h3
            have hb : ∀ i, i < l.length → (0 ≤ gX l i ∧ gX l i ≤ 200000) ∧ 0 ≤ gR l i ∧ gR l i ≤ 4294967296 := fun i hi => by
              refine mkOut_not.1 ?_
              cases hq : mkOut (l.getD i (0, 0)) with
              | false => rfl
              | true => rw [anyq_at.2 ⟨i, hi, hq⟩] at h3; cases h3
            have hr := (risB_iff l (l.length - 1)).1 (by simpa using h4)
            exact ⟨⟨by omega, by omega, fun i hi => (hb i hi).1, fun i hi => (hb i hi).2, fun i hi => (hr i (by omega)).1, fun i hi => (hr i (by omega)).2⟩, by omega, by omega⟩
  · rintro ⟨h, t0, t1⟩
    have n0 := h.n0
    have n1 := h.n1
    rw [if_neg (by omega), if_neg (by omega), if_neg, if_neg]
    · rw [Bool.not_eq_false]
      exact (risB_iff _ _).2 fun i hi => ⟨h.asc i (by omega), h.up i (by omega)⟩
    · rw [Bool.not_eq_true, Bool.or_eq_false_iff, Bool.or_eq_false_iff, decide_eq_false_iff_not, decide_eq_false_iff_not]
      refine ⟨⟨by omega, by omega⟩, ?_⟩
      cases hq : l.any mkOut with
      | false => rfl
      | true =>
        obtain ⟨i, hi, hp⟩ := anyq_at.1 hq
        rw [mkOut_not.2 ⟨h.bh i hi, h.bv i hi⟩] at hp
        cases hp
theorem MR.lt {l : List (Int × Int)} (h : MR l) {i j : Nat} (hij : i < j) (hj : j < l.length) : gX l i < gX l j := by
  induction j with
  | zero => omega
  | succ j ih =>
    have := h.asc j hj
    by_cases e : i = j
    · rw [e]; exact this
    · have := ih (by omega) (by omega); omega
theorem MR.le {l : List (Int × Int)} (h : MR l) {i j : Nat} (hij : i ≤ j) (hj : j < l.length) : gX l i ≤ gX l j := by
  by_cases e : i = j
  · rw [e]; exact Int.le_refl _
  · have := h.lt (show i < j by omega) hj; omega
theorem MR.rle {l : List (Int × Int)} (h : MR l) {i j : Nat} (hij : i ≤ j) (hj : j < l.length) : gR l i ≤ gR l j := by
  induction j with
  | zero => rw [show i = 0 by omega]; exact Int.le_refl _
  | succ j ih =>
    by_cases e : i = j + 1
    · rw [e]; exact Int.le_refl _
    · have := ih (by omega) (by omega); have := h.up j hj; omega
/-- the mark behind the first one that is not below a height -/
def tpc (l : List (Int × Int)) (x : Int) : Nat := 1 + fst (fun i => decide (x ≤ gX l (i + 1))) (l.length - 1)
/-- the volume of a piece at a height -/
def vlF (l : List (Int × Int)) (i : Nat) (x : Int) : Int := gR l (i - 1) + (gR l i - gR l (i - 1)) * (x - gX l (i - 1)) / (gX l i - gX l (i - 1))
/-- the volume at a height -/
def vl (l : List (Int × Int)) (x : Int) : Int := vlF l (tpc l x) x
structure IsT (l : List (Int × Int)) (x : Int) (i : Nat) : Prop where
  h1 : 1 ≤ i
  h2 : i < l.length
  h3 : x ≤ gX l i
  h4 : ∀ j, 1 ≤ j → j < i → gX l j < x
theorem tpc_of {l : List (Int × Int)} {x : Int} {i : Nat} (h : IsT l x i) : tpc l x = i := by
  obtain ⟨h1, h2, h3, h4⟩ := h
  unfold tpc
  rw [fst_is (k := i - 1) (by omega) (fun j hj => decide_eq_false (by have := h4 (j + 1) (by omega) (by omega); omega)) (fun _ => by rw [Nat.sub_add_cancel h1]; exact decide_eq_true h3)]
  omega
theorem tpc_is {l : List (Int × Int)} (h : MR l) {x : Int} (hx : x ≤ gX l (l.length - 1)) : IsT l x (tpc l x) := by
  have n0 := h.n0
  obtain ⟨s1, s2⟩ := fst_spec (fun i => decide (x ≤ gX l (i + 1))) (l.length - 1)
  have le := fst_le (fun i => decide (x ≤ gX l (i + 1))) (l.length - 1)
  unfold tpc
  generalize fst (fun i => decide (x ≤ gX l (i + 1))) (l.length - 1) = k at *
  have hk : k < l.length - 1 := by
    rcases Nat.lt_or_ge k (l.length - 1) with g | g
    · exact g
    · have := of_decide_eq_false (s1 (l.length - 2) (by omega))
      rw [show l.length - 2 + 1 = l.length - 1 by omega] at this
      exact absurd hx this
  refine ⟨by omega, by omega, ?_, fun j hj hj2 => ?_⟩
  · have := of_decide_eq_true (s2 hk)
    rwa [Nat.add_comm] at this
  · have := of_decide_eq_false (s1 (j - 1) (by omega))
    rw [Nat.sub_add_cancel hj] at this
    omega
/-- between two marks -/
theorem vlF_bd {l : List (Int × Int)} (h : MR l) {i : Nat} (i1 : 1 ≤ i) (hi : i < l.length) {x : Int} (x0 : gX l (i - 1) ≤ x) (x1 : x ≤ gX l i) :
    (0 ≤ (gR l i - gR l (i - 1)) * (x - gX l (i - 1)) ∧ (gR l i - gR l (i - 1)) * (x - gX l (i - 1)) ≤ 4294967296 * 200000) ∧ gR l (i - 1) ≤ vlF l i x ∧ vlF l i x ≤ gR l i := by
  have a := h.asc (i - 1) (by omega)
  have u := h.up (i - 1) (by omega)
  have b0 := h.bh (i - 1) (by omega)
  have b1 := h.bh i hi
  have v0 := h.bv (i - 1) (by omega)
  have v1 := h.bv i hi
  rw [Nat.sub_add_cancel i1] at a u
  unfold vlF
  generalize gR l i = R at *
  generalize gR l (i - 1) = Q at *
  generalize gX l i = B at *
  generalize gX l (i - 1) = A at *
  have m0 := Int.mul_nonneg (show 0 ≤ R - Q by omega) (show 0 ≤ x - A by omega)
  have m1 := Int.mul_le_mul (show R - Q ≤ 4294967296 by omega) (show x - A ≤ 200000 by omega) (by omega) (by omega)
  have m2 := Int.mul_le_mul_of_nonneg_left (show x - A ≤ B - A by omega) (show 0 ≤ R - Q by omega)
  have d0 := Int.ediv_nonneg m0 (show 0 ≤ B - A by omega)
  have d1 : (R - Q) * (x - A) / (B - A) ≤ R - Q := by
    have := Int.ediv_le_ediv (show 0 < B - A by omega) m2
    rwa [Int.mul_ediv_cancel _ (by omega)] at this
  exact ⟨⟨m0, m1⟩, by omega, by omega⟩
theorem vlF_mono {l : List (Int × Int)} (h : MR l) {i : Nat} (i1 : 1 ≤ i) (hi : i < l.length) {x y : Int} (xy : x ≤ y) : vlF l i x ≤ vlF l i y := by
  have a := h.asc (i - 1) (by omega)
  have u := h.up (i - 1) (by omega)
  rw [Nat.sub_add_cancel i1] at a u
  unfold vlF
  have := Int.ediv_le_ediv (show 0 < gX l i - gX l (i - 1) by omega) (Int.mul_le_mul_of_nonneg_left (show x - gX l (i - 1) ≤ y - gX l (i - 1) by omega) (show 0 ≤ gR l i - gR l (i - 1) by omega))
  omega
theorem IsT.from {l : List (Int × Int)} {x : Int} {i : Nat} (h : IsT l x i) (x0 : gX l 0 ≤ x) : gX l (i - 1) ≤ x := by
  by_cases e : i = 1
  · subst e; exact x0
  · have := h.h4 (i - 1) (by have := h.h1; omega) (by have := h.h1; omega); omega
theorem vl_end {l : List (Int × Int)} (h : MR l) {i : Nat} (i1 : 1 ≤ i) (hi : i < l.length) : vlF l i (gX l i) = gR l i := by
  have a := h.asc (i - 1) (by omega)
  rw [Nat.sub_add_cancel i1] at a
  unfold vlF
  rw [Int.mul_ediv_cancel _ (by omega)]
  omega
theorem vl_begin (l : List (Int × Int)) (i : Nat) : vlF l i (gX l (i - 1)) = gR l (i - 1) := by
  unfold vlF; simp
theorem vl_bd {l : List (Int × Int)} (h : MR l) {x : Int} (x0 : gX l 0 ≤ x) (x1 : x ≤ gX l (l.length - 1)) : gR l 0 ≤ vl l x ∧ vl l x ≤ gR l (l.length - 1) := by
  have t := tpc_is h x1
  obtain ⟨_, b0, b1⟩ := vlF_bd h t.h1 t.h2 (t.from x0) t.h3
  have := h.rle (Nat.zero_le (tpc l x - 1)) (by have := t.h2; omega)
  have := h.rle (show tpc l x ≤ l.length - 1 by have := t.h2; omega) (by have := h.n0; omega)
  unfold vl
  omega
theorem vl_mark {l : List (Int × Int)} (h : MR l) {i : Nat} (hi : i < l.length) : vl l (gX l i) = gR l i := by
  unfold vl
  by_cases e : i = 0
  · subst e
    rw [tpc_of (i := 1) ⟨by omega, by have := h.n0; omega, h.le (by omega) (by have := h.n0; omega), fun j h1 h2 => by omega⟩]
    exact vl_begin l 1
  · rw [tpc_of (i := i) ⟨by omega, hi, Int.le_refl _, fun j h1 h2 => h.lt h2 hi⟩]
    exact vl_end h (by omega) hi
theorem vl_mono {l : List (Int × Int)} (h : MR l) {x y : Int} (x0 : gX l 0 ≤ x) (xy : x ≤ y) (y1 : y ≤ gX l (l.length - 1)) : vl l x ≤ vl l y := by
  have t := tpc_is h (show x ≤ gX l (l.length - 1) by omega)
  have s := tpc_is h y1
  unfold vl
  by_cases e : tpc l x = tpc l y
  · rw [e]; exact vlF_mono h s.h1 s.h2 xy
  · have lt : tpc l x < tpc l y := by
      rcases Nat.lt_trichotomy (tpc l x) (tpc l y) with g | g | g
      · exact g
      · exact absurd g e
      · have := t.h4 _ s.h1 g; have := s.h3; omega
    obtain ⟨_, _, b1⟩ := vlF_bd h t.h1 t.h2 (t.from x0) t.h3
    obtain ⟨_, b0, _⟩ := vlF_bd h s.h1 s.h2 (s.from (by omega)) s.h3
    have := h.rle (show tpc l x ≤ tpc l y - 1 by omega) (by have := s.h2; omega)
    omega
/-- the least height with at least a volume; one above the last mark, if there is none -/
def lsA (l : List (Int × Int)) (v : Int) : Int := gX l 0 + (fst (fun i => decide (v ≤ vl l (gX l 0 + i))) (gX l (l.length - 1) - gX l 0 + 1).toNat : Nat)
theorem MR.span {l : List (Int × Int)} (h : MR l) : 0 ≤ gX l 0 ∧ gX l 0 < gX l (l.length - 1) ∧ gX l (l.length - 1) ≤ 200000 := by
  have n0 := h.n0
  exact ⟨(h.bh 0 (by omega)).1, h.lt (by omega) (by omega), (h.bh (l.length - 1) (by omega)).2⟩
theorem ls_mono {l : List (Int × Int)} (h : MR l) (v : Int) : ∀ a b : Nat, a ≤ b → b < (gX l (l.length - 1) - gX l 0 + 1).toNat → decide (v ≤ vl l (gX l 0 + a)) = true → decide (v ≤ vl l (gX l 0 + b)) = true := fun a b hab hb ha => by
  have s := h.span
  have := vl_mono h (x := gX l 0 + a) (y := gX l 0 + b) (by omega) (by omega) (by omega)
  have := of_decide_eq_true ha
  exact decide_eq_true (by omega)
theorem ls_bd {l : List (Int × Int)} (h : MR l) (v : Int) : gX l 0 ≤ lsA l v ∧ lsA l v ≤ gX l (l.length - 1) + 1 := by
  have s := h.span
  have := fst_le (fun i => decide (v ≤ vl l (gX l 0 + i))) (gX l (l.length - 1) - gX l 0 + 1).toNat
  unfold lsA
  omega
theorem ls_iff {l : List (Int × Int)} (h : MR l) (v : Int) {x : Int} (x0 : gX l 0 ≤ x) (x1 : x ≤ gX l (l.length - 1)) : v ≤ vl l x ↔ lsA l v ≤ x := by
  have s := h.span
  have := fst_iff (ls_mono h v) (i := (x - gX l 0).toNat) (by omega)
  rw [show gX l 0 + (((x - gX l 0).toNat : Nat) : Int) = x by omega, decide_eq_true_eq] at this
  rw [this]
  unfold lsA
  omega
theorem ls_of {l : List (Int × Int)} (h : MR l) (v : Int) {y : Int} (y0 : gX l 0 ≤ y) (y1 : y ≤ gX l (l.length - 1) + 1) (hy : ∀ x, gX l 0 ≤ x → x ≤ gX l (l.length - 1) → (v ≤ vl l x ↔ y ≤ x)) : lsA l v = y := by
  have b := ls_bd h v
  rcases Int.lt_trichotomy (lsA l v) y with g | g | g
  · have := (hy (lsA l v) b.1 (by omega)).1 ((ls_iff h v b.1 (by omega)).2 (Int.le_refl _)); omega
  · exact g
  · have := (ls_iff h v y0 (by omega)).1 ((hy y y0 (by omega)).2 (Int.le_refl _)); omega
/-- the greatest height with at most a volume -/
theorem ls_top {l : List (Int × Int)} (h : MR l) {v : Int} (v0 : gR l 0 ≤ v) : gX l 0 ≤ lsA l (v + 1) - 1 := by
  have s := h.span
  have b := ls_bd h (v + 1)
  have m := vl_mark h (i := 0) (by have := h.n0; omega)
  have : ¬ lsA l (v + 1) ≤ gX l 0 := fun g => by
    have := (ls_iff h (v + 1) (Int.le_refl _) (by omega)).2 g
    omega
  omega
theorem ls_up {l : List (Int × Int)} (h : MR l) {u v : Int} (huv : u ≤ v) : lsA l u ≤ lsA l v := by
  have b := ls_bd h v
  by_cases g : lsA l v ≤ gX l (l.length - 1)
  · have := (ls_iff h v b.1 g).2 (Int.le_refl _)
    exact (ls_iff h u b.1 g).1 (by omega)
  · have := ls_bd h u; omega
/-- what Heights returns -/
def htE (l : List (Int × Int)) (tol v : Int) : Int := if tbE l tol ≠ 0 then 1 else if v < gR l 0 ∨ gR l (l.length - 1) < v then 2 else 0
def htH (l : List (Int × Int)) (v : Int) : Int := lsA l (v + 1) - 1
def htL (l : List (Int × Int)) (v : Int) : Int := min (lsA l v) (lsA l (v + 1) - 1)
/-- what Read returns -/
def rdE (l : List (Int × Int)) (tol x : Int) : Int := if tbE l tol ≠ 0 then 1 else if x < gX l 0 ∨ gX l (l.length - 1) < x then 2 else 0
def rdQ (l : List (Int × Int)) (tol x : Int) : Int := if rdE l tol x = 0 then vl l x else 0
theorem rdE_zero {l : List (Int × Int)} {tol x : Int} : rdE l tol x = 0 ↔ tbE l tol = 0 ∧ gX l 0 ≤ x ∧ x ≤ gX l (l.length - 1) := by
  unfold rdE
  by_cases h : tbE l tol = 0
  · rw [if_neg (by simpa using h)]
    split <;> omega
  · rw [if_pos h]; omega
theorem htE_zero {l : List (Int × Int)} {tol v : Int} : htE l tol v = 0 ↔ tbE l tol = 0 ∧ gR l 0 ≤ v ∧ v ≤ gR l (l.length - 1) := by
  unfold htE
  by_cases h : tbE l tol = 0
  · rw [if_neg (by simpa using h)]
    split <;> omega
  · rw [if_pos h]; omega
end Go.Proofs.YtdpkochkpcjioabDoor

