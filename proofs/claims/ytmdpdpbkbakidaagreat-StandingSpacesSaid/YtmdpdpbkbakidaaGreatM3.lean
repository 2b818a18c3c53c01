/- Texts that the proofs of this seat share, one behind the other: EPN, ST, EPO, EQA, LCF, RT, SChd, SPa, SPe, EPK, PPE, PPF, Num, Div, OfK, Up1, PPG, PPH, PPT, OBD, ESM, ESN, EPG. -/
import Derived.Test.YtmdpdpbkbakidaaGreatM2
import Derived.Lib.SlicesCompact
import Derived.Test.YtmdpdpbkbakidaaGreatM1
import Derived.FnLit
import Derived.StillTailTactics
import Derived.Deep.DeepCutAuto
import Derived.Laws.StructEq
import Derived.WalkMore
import Derived.BigQuiet
import Derived.Deep.RegionWith
import Derived.RangeFuncBox
import Derived.Shelf.Abstract
import Derived.Lib.BitFns
import Derived.Lib.ItoaNum
import Derived.Laws.Bits64
import Derived.Laws.BitsAllLaws
import Derived.Test.YtmdpdpbkbakidaaGreatProg
import Derived.Test.YtmdpdpbkbakidaaGreatShelf
import Derived.WalkKit
import Derived.Handy
import Derived.Lib.Hide
import Derived.Outline
import Derived.Deep.CutBlock
import Derived.Deep.QuietTactic
import Derived.Deep.RegionHeld3
import Derived.Test.YtmdpdpbkbakidaaGreatShelfG
import Derived.Shelf.Spec.SlicesGrow

set_option linter.unusedVariables false
set_option linter.unusedSimpArgs false

/- Plain facts: lists of integers, sorted, each number once. No program stands in this text. -/
namespace Go.Proofs.YtmdpdpbkbakidaaGreat

/-- two strictly increasing lists with the same members are equal -/
theorem str_ext : ∀ {a b : List Int}, a.Pairwise (· < ·) → b.Pairwise (· < ·) → (∀ x, x ∈ a ↔ x ∈ b) → a = b
  | [], [], _, _, _ => rfl
  | [], y :: b, _, _, h => by have := (h y).2 (by simp); cases this
  | x :: a, [], _, _, h => by have := (h x).1 (by simp); cases this
  | x :: a, y :: b, ha, hb, h => by
    rw [List.pairwise_cons] at ha hb
    have e : x = y := by
      have h1 := (h x).1 (by simp)
      have h2 := (h y).2 (by simp)
      rw [List.mem_cons] at h1 h2
      rcases h1 with h1 | h1
      · exact h1
      · rcases h2 with h2 | h2
        · exact h2.symm
        · have := ha.1 y h2; have := hb.1 x h1; omega
    subst e
    congr 1
    refine str_ext ha.2 hb.2 fun z => ?_
    constructor
    · intro hz
      have := (h z).1 (by simp [hz])
      rw [List.mem_cons] at this
      rcases this with rfl | this
      · have := ha.1 _ hz; omega
      · exact this
    · intro hz
      have := (h z).2 (by simp [hz])
      rw [List.mem_cons] at this
      rcases this with rfl | this
      · have := hb.1 _ hz; omega
      · exact this
theorem compact_up (d : Array Int) (hs : ∀ i j, i ≤ j → j < d.size → d[i]! ≤ d[j]!) (m : Nat) (hm : m ≤ d.size) :
    (Lib.compactUpTo d m).Pairwise (· < ·) ∧ (∀ x, x ∈ Lib.compactUpTo d m ↔ ∃ j, j < m ∧ d[j]! = x) ∧ (Lib.compactUpTo d m).length ≤ m := by
  induction m with
  | zero => simp [Lib.compactUpTo]
  | succ m ih =>
    obtain ⟨i1, i2, i3⟩ := ih (by omega)
    rw [Lib.compactUpTo_succ]
    by_cases hk : Lib.keeps d m = true
    · rw [if_pos hk]
      have hk' : m = 0 ∨ d[m]! ≠ d[m - 1]! := by unfold Lib.keeps at hk; exact of_decide_eq_true hk
      refine ⟨?_, fun x => ?_, ?_⟩
      · rw [List.pairwise_append]
        refine ⟨i1, by simp, ?_⟩
        intro x hx y hy
        rw [List.mem_singleton] at hy
        subst hy
        obtain ⟨j, hj, rfl⟩ := (i2 x).1 hx
        have a := hs j (m - 1) (by omega) (by omega)
        have b := hs (m - 1) m (by omega) (by omega)
        rcases hk' with h | h <;> omega
      · rw [List.mem_append, i2, List.mem_singleton]
        constructor
        · rintro (⟨j, hj, e⟩ | e)
          · exact ⟨j, by omega, e⟩
          · exact ⟨m, by omega, e.symm⟩
        · rintro ⟨j, hj, e⟩
          by_cases g : j = m
          · right; rw [← e, g]
          · left; exact ⟨j, by omega, e⟩
      · rw [List.length_append, List.length_singleton]; omega
    · rw [if_neg hk, List.append_nil]
      have hk' : ¬ (m = 0 ∨ d[m]! ≠ d[m - 1]!) := fun h => hk (by unfold Lib.keeps; exact decide_eq_true h)
      have m0 : m ≠ 0 := fun h => hk' (.inl h)
      have e0 : d[m]! = d[m - 1]! := by
        by_cases g : d[m]! = d[m - 1]!
        · exact g
        · exact absurd (.inr g) hk'
      refine ⟨i1, fun x => ?_, by omega⟩
      rw [i2]
      constructor
      · rintro ⟨j, hj, e⟩; exact ⟨j, by omega, e⟩
      · rintro ⟨j, hj, e⟩
        by_cases g : j = m
        · exact ⟨m - 1, by omega, by rw [← e, g, e0]⟩
        · exact ⟨j, by omega, e⟩
/-- sorted -/
def srtI (zs : List Int) : List Int := zs.mergeSort fun x y => decide (x ≤ y)
/-- sorted, each number once -/
def mrgI (zs : List Int) : List Int := Lib.compact (srtI zs)
theorem srt_asc (zs : List Int) : (srtI zs).Pairwise (· ≤ ·) := by
  have := List.pairwise_mergeSort (le := fun x y : Int => decide (x ≤ y)) (fun a b c h1 h2 => by simp at *; omega) (fun a b => by simp; omega) zs
  exact this.imp (by simp)
theorem srt_len (zs : List Int) : (srtI zs).length = zs.length := List.length_mergeSort zs
theorem srt_mem (zs : List Int) (x : Int) : x ∈ srtI zs ↔ x ∈ zs := (List.mergeSort_perm zs _).mem_iff
theorem mrg_facts (zs : List Int) : (mrgI zs).Pairwise (· < ·) ∧ (∀ x, x ∈ mrgI zs ↔ x ∈ zs) ∧ (mrgI zs).length ≤ zs.length := by
  have hs : ∀ i j, i ≤ j → j < (srtI zs).toArray.size → (srtI zs).toArray[i]! ≤ (srtI zs).toArray[j]! := by
    intro i j hij hj
    have hj' : j < (srtI zs).length := by simpa using hj
    rw [getElem!_pos _ i (by simp; omega), getElem!_pos _ j hj]
    simp only [List.getElem_toArray]
    by_cases e : i = j
    · subst e; exact Int.le_refl _
    · exact List.pairwise_iff_getElem.1 (srt_asc zs) i j (by omega) hj' (by omega)
  obtain ⟨a, b, c⟩ := compact_up (srtI zs).toArray hs (srtI zs).length (by simp)
  refine ⟨a, fun x => ?_, ?_⟩
  · rw [show mrgI zs = Lib.compactUpTo (srtI zs).toArray (srtI zs).length from rfl, b, ← srt_mem zs x, List.mem_iff_getElem]
    constructor
    · rintro ⟨j, hj, e⟩
      rw [getElem!_pos _ j (by simpa using hj)] at e
      exact ⟨j, hj, by simpa using e⟩
    · rintro ⟨j, hj, e⟩
      refine ⟨j, hj, ?_⟩
      rw [getElem!_pos _ j (by simpa using hj)]
      simpa using e
  · rw [show mrgI zs = Lib.compactUpTo (srtI zs).toArray (srtI zs).length from rfl]
    rw [srt_len] at c ⊢
    exact c
theorem str_at {a : List Int} (h : a.Pairwise (· < ·)) {i j : Nat} (hij : i < j) (hj : j < a.length) : a.getD i 0 < a.getD j 0 := by
  have := List.pairwise_iff_getElem.1 h i j (by omega) hj hij
  rw [List.getD_eq_getElem?_getD, List.getElem?_eq_getElem (show i < a.length by omega), List.getD_eq_getElem?_getD, List.getElem?_eq_getElem hj]
  exact this
theorem mem_at {a : List Int} {x : Int} : x ∈ a ↔ ∃ i, i < a.length ∧ a.getD i 0 = x := by
  rw [List.mem_iff_getElem]
  constructor
  · rintro ⟨i, hi, e⟩
    exact ⟨i, hi, by rw [List.getD_eq_getElem?_getD, List.getElem?_eq_getElem hi]; exact e⟩
  · rintro ⟨i, hi, e⟩
    exact ⟨i, hi, by rw [List.getD_eq_getElem?_getD, List.getElem?_eq_getElem hi] at e; exact e⟩
end Go.Proofs.YtmdpdpbkbakidaaGreat

/- Plain facts of layer 12: sums between levels. No program stands in this text. -/
namespace Go.Proofs.YtmdpdpbkbakidaaGreat

/-- right levels -/
structure LvR (l : List (Int × Int)) (ls : List Int) : Prop where
  n0 : 2 ≤ ls.length
  n1 : ls.length ≤ 128
  bd : ∀ i, i < ls.length → 0 ≤ ls.getD i 0 ∧ ls.getD i 0 ≤ gX l (l.length - 1)
  asc : ∀ i, i + 1 < ls.length → ls.getD i 0 < ls.getD (i + 1) 0
  has : ∀ j, j < l.length → ls.getD 0 0 < gX l j → gX l j < ls.getD (ls.length - 1) 0 → ∃ i, i < ls.length ∧ ls.getD i 0 = gX l j
theorem LvR.piece {l : List (Int × Int)} {ls : List Int} (hR : RP l) (h : LvR l ls) {i : Nat} (hi : i + 1 < ls.length) : ∃ k, k + 1 < l.length ∧ gX l k ≤ ls.getD i 0 ∧ ls.getD (i + 1) 0 ≤ gX l (k + 1) := by
  have lt := h.asc i hi
  have b1 := h.bd (i + 1) hi
  have p := pc_is hR.n0 (show ls.getD (i + 1) 0 ≤ gX l (l.length - 1) from b1.2)
  have p1 := p.h1
  refine ⟨pc l (ls.getD (i + 1) 0) - 1, by have := p.h2; omega, ?_, by rw [Nat.sub_add_cancel p1]; exact p.h3⟩
  generalize pc l (ls.getD (i + 1) 0) = m at *
  by_cases hm : m = 1
  · subst hm
    have := hR.x0
    have b0 := h.bd i (by omega)
    show gX l 0 ≤ _
    omega
  · have q := p.h4 (m - 1) (by omega) (by omega)
    by_cases g0 : gX l (m - 1) ≤ ls.getD 0 0
    · have := asc_le h.asc (Nat.zero_le i) (show i < ls.length by omega); omega
    · have a := asc_le h.asc (show i + 1 ≤ ls.length - 1 by omega) (show ls.length - 1 < ls.length by omega)
      obtain ⟨t, ht, et⟩ := h.has (m - 1) (by have := p.h2; omega) (by omega) (by omega)
      by_cases g : t ≤ i
      · have := asc_le h.asc g (show i < ls.length by omega); omega
      · have := asc_le h.asc (show i + 1 ≤ t by omega) ht; omega
theorem LvR.slice {l : List (Int × Int)} {ls : List Int} (hR : RP l) (h : LvR l ls) {k : Nat} (hk : k + 1 < ls.length) :
    (0 < ls.getD (k + 1) 0 - ls.getD k 0 ∧ ls.getD (k + 1) 0 - ls.getD k 0 ≤ 100000) ∧ 1 ≤ slL l (ls.getD k 0) (ls.getD (k + 1) 0) ∧ slL l (ls.getD k 0) (ls.getD (k + 1) 0) ≤ slH l (ls.getD k 0) (ls.getD (k + 1) 0) ∧ slH l (ls.getD k 0) (ls.getD (k + 1) 0) ≤ 100000 := by
  have b0 := h.bd k (by omega)
  have b1 := h.bd (k + 1) hk
  have a := h.asc k hk
  have x := hR.bx (l.length - 1) (by have := hR.n0; omega)
  have := sl_bd hR (a := ls.getD k 0) (b := ls.getD (k + 1) 0) b0.1 (by omega) b1.2
  omega
/-- the sum of a step, its bounds -/
theorem en_step {l : List (Int × Int)} {ls : List Int} (hR : RP l) (h : LvR l ls) {k : Nat} (hk : k + 1 < ls.length) :
    0 ≤ 3 * ((ls.getD (k + 1) 0 - ls.getD k 0) * (slL l (ls.getD k 0) (ls.getD (k + 1) 0) * slL l (ls.getD k 0) (ls.getD (k + 1) 0))) ∧
    3 * ((ls.getD (k + 1) 0 - ls.getD k 0) * (slL l (ls.getD k 0) (ls.getD (k + 1) 0) * slL l (ls.getD k 0) (ls.getD (k + 1) 0))) ≤ 3 * ((ls.getD (k + 1) 0 - ls.getD k 0) * (slH l (ls.getD k 0) (ls.getD (k + 1) 0) * slH l (ls.getD k 0) (ls.getD (k + 1) 0))) ∧
    3 * ((ls.getD (k + 1) 0 - ls.getD k 0) * (slH l (ls.getD k 0) (ls.getD (k + 1) 0) * slH l (ls.getD k 0) (ls.getD (k + 1) 0))) ≤ (ls.getD (k + 1) 0 - ls.getD k 0) * 30000000000 := by
  obtain ⟨⟨w0, w1⟩, s0, s1, s2⟩ := h.slice hR hk
  generalize slL l (ls.getD k 0) (ls.getD (k + 1) 0) = a at *
  generalize slH l (ls.getD k 0) (ls.getD (k + 1) 0) = b at *
  generalize ls.getD (k + 1) 0 - ls.getD k 0 = w at *
  have q0 := Int.mul_nonneg (show 0 ≤ a by omega) (show 0 ≤ a by omega)
  have q1 := Int.mul_le_mul s1 s1 (show 0 ≤ a by omega) (show 0 ≤ b by omega)
  have q2 := Int.mul_le_mul s2 s2 (show 0 ≤ b by omega) (show (0 : Int) ≤ 100000 by omega)
  have m0 := Int.mul_nonneg (show 0 ≤ w by omega) q0
  have m1 := Int.mul_le_mul_of_nonneg_left q1 (show 0 ≤ w by omega)
  have m2 := Int.mul_le_mul_of_nonneg_left q2 (show 0 ≤ w by omega)
  omega
theorem en_bd {l : List (Int × Int)} {ls : List Int} (hR : RP l) (h : LvR l ls) (k : Nat) (hk : k < ls.length) :
    0 ≤ enL l ls k ∧ enL l ls k ≤ enH l ls k ∧ enH l ls k ≤ (ls.getD k 0 - ls.getD 0 0) * 30000000000 := by
  induction k with
  | zero => simp [enL, enH]
  | succ k ih =>
    obtain ⟨i0, i1, i2⟩ := ih (by omega)
    obtain ⟨s0, s1, s2⟩ := en_step hR h hk
    unfold enL enH
    omega
theorem en_grows {l : List (Int × Int)} {ls : List Int} (hR : RP l) (h : LvR l ls) (k : Nat) (hk : k + 1 < ls.length) : enL l ls k ≤ enL l ls (k + 1) ∧ enH l ls k ≤ enH l ls (k + 1) := by
  obtain ⟨s0, s1, s2⟩ := en_step hR h hk
  show enL l ls k ≤ enL l ls k + _ ∧ enH l ls k ≤ enH l ls k + _
  omega
theorem en_same {l : List (Int × Int)} {ls ms : List Int} (k : Nat) (h : ∀ i, i ≤ k → ms.getD i 0 = ls.getD i 0) : enL l ms k = enL l ls k ∧ enH l ms k = enH l ls k := by
  induction k with
  | zero => exact ⟨rfl, rfl⟩
  | succ k ih =>
    obtain ⟨e1, e2⟩ := ih (fun i hi => h i (by omega))
    unfold enL enH
    rw [e1, e2, h k (by omega), h (k + 1) (by omega)]
    exact ⟨rfl, rfl⟩
/-- right places are right levels -/
theorem PlR.lv {l : List (Int × Int)} {ps : List Int} (h : PlR l ps) : LvR l ps :=
  ⟨h.n0, h.n1, fun i hi => h.bd hi, h.asc, fun j hj _ _ => h.has j hj⟩
/-- the first ones of right levels -/
theorem LvR.take {l : List (Int × Int)} {ls : List Int} (h : LvR l ls) {k : Nat} (k2 : 2 ≤ k) (hk : k ≤ ls.length) : LvR l (ls.take k) ∧ (ls.take k).length = k ∧ ∀ i, i < k → (ls.take k).getD i 0 = ls.getD i 0 := by
  have ln : (ls.take k).length = k := by rw [List.length_take]; omega
  have at' : ∀ i, i < k → (ls.take k).getD i 0 = ls.getD i 0 := fun i hi => by
    rw [List.getD_eq_getElem?_getD, List.getElem?_take_of_lt hi, ← List.getD_eq_getElem?_getD]
  refine ⟨⟨by omega, by have := h.n1; omega, fun i hi => ?_, fun i hi => ?_, fun j hj g0 g1 => ?_⟩, ln, at'⟩
  · rw [at' i (by omega)]; exact h.bd i (by omega)
  · rw [at' i (by omega), at' (i + 1) (by omega)]; exact h.asc i (by omega)
  · rw [ln, at' (k - 1) (by omega)] at g1
    rw [at' 0 (by omega)] at g0
    have a := asc_le h.asc (show k - 1 ≤ ls.length - 1 by omega) (by omega)
    obtain ⟨t, ht, et⟩ := h.has j hj g0 (by omega)
    by_cases g : t < k
    · exact ⟨t, by omega, by rw [at' t g]; exact et⟩
    · have := asc_le h.asc (show k - 1 ≤ t by omega) ht; omega
/-! ### one more level -/
theorem pins_level {l : List (Int × Int)} {ls : List Int} {i : Nat} {x : Int} (hP : LvR l ls) (h : PinP ls i x) (n : ls.length ≤ 127) : LvR l (pins ls i x) := by
  obtain ⟨i1, i2, lo, hi⟩ := h
  have at' := pins_at x (show i ≤ ls.length by omega)
  have ln := pins_len x (show i ≤ ls.length by omega)
  refine ⟨by rw [ln]; omega, by rw [ln]; omega, fun j hj => ?_, fun j hj => ?_, fun j hj g0 g1 => ?_⟩
  · rw [ln] at hj
    rw [at']
    have a := hP.bd (i - 1) (by omega)
    have b := hP.bd i i2
    by_cases g1 : j < i
    · rw [if_pos g1]; exact hP.bd j (by omega)
    · rw [if_neg g1]
      by_cases g2 : j = i
      · rw [if_pos g2]; omega
      · rw [if_neg g2]; exact hP.bd (j - 1) (by omega)
  · rw [ln] at hj
    rw [at', at']
    by_cases g1 : j + 1 < i
    · rw [if_pos (by omega), if_pos g1]; exact hP.asc j (by omega)
    · by_cases g2 : j + 1 = i
      · rw [if_pos (by omega), if_neg g1, if_pos g2, show j = i - 1 by omega]; exact lo
      · by_cases g3 : j = i
        · rw [if_neg (by omega), if_pos g3, if_neg (by omega), if_neg (by omega), Nat.add_sub_cancel, g3]; exact hi
        · rw [if_neg (by omega), if_neg g3, if_neg (by omega), if_neg (by omega), Nat.add_sub_cancel]
          have := hP.asc (j - 1) (by omega)
          rwa [Nat.sub_add_cancel (by omega)] at this
  · rw [at', if_pos (by omega)] at g0
    rw [ln, at', if_neg (by omega), if_neg (by omega), Nat.add_sub_cancel] at g1
    obtain ⟨t, ht, et⟩ := hP.has j hj g0 g1
    by_cases g : t < i
    · exact ⟨t, by rw [ln]; omega, by rw [at', if_pos g]; exact et⟩
    · exact ⟨t + 1, by rw [ln]; omega, by rw [at', if_neg (by omega), if_neg (by omega), Nat.add_sub_cancel]; exact et⟩
theorem en_more {l : List (Int × Int)} {ls : List Int} {i : Nat} {x : Int} (hR : RP l) (hP : LvR l ls) (h : PinP ls i x) :
    (∀ k, k < i → enL l (pins ls i x) k = enL l ls k ∧ enH l (pins ls i x) k = enH l ls k) ∧
    (∀ k, i ≤ k → k < ls.length → enL l ls k ≤ enL l (pins ls i x) (k + 1) ∧ enH l (pins ls i x) (k + 1) ≤ enH l ls k) := by
  obtain ⟨i1, i2, lo, hi⟩ := h
  have at' := pins_at x (show i ≤ ls.length by omega)
  have below : ∀ k, k < i → enL l (pins ls i x) k = enL l ls k ∧ enH l (pins ls i x) k = enH l ls k := fun k hk =>
    en_same k (fun j hj => by rw [at', if_pos (by omega)])
  refine ⟨below, fun k => ?_⟩
  induction k with
  | zero => intro h; omega
  | succ k ih =>
    intro hk hk2
    by_cases g : i = k + 1
    · subst g
      obtain ⟨e1, e2⟩ := below k (by omega)
      rw [Nat.add_sub_cancel] at lo
      obtain ⟨t, ht, t0, t1⟩ := hP.piece hR hk2
      have md := rd_mid hR ht t0 (show ls.getD k 0 ≤ x by omega) (show x ≤ ls.getD (k + 1) 0 by omega) t1
      obtain ⟨⟨w0, w1⟩, s0, s1, s2⟩ := hP.slice hR hk2
      have b0 := hP.bd k (by omega)
      have b1 := hP.bd (k + 1) hk2
      have c1 := sl_bd hR (a := ls.getD k 0) (b := x) b0.1 (by omega) (by omega)
      have c2 := sl_bd hR (a := x) (b := ls.getD (k + 1) 0) (by omega) (by omega) b1.2
      have a1 : slL l (ls.getD k 0) (ls.getD (k + 1) 0) ≤ slL l (ls.getD k 0) x ∧ slL l (ls.getD k 0) (ls.getD (k + 1) 0) ≤ slL l x (ls.getD (k + 1) 0) ∧ slH l (ls.getD k 0) x ≤ slH l (ls.getD k 0) (ls.getD (k + 1) 0) ∧ slH l x (ls.getD (k + 1) 0) ≤ slH l (ls.getD k 0) (ls.getD (k + 1) 0) := by
        unfold slL slH at *; omega
      have p0 : (pins ls (k + 1) x).getD k 0 = ls.getD k 0 := by rw [at', if_pos (by omega)]
      have p1 : (pins ls (k + 1) x).getD (k + 1) 0 = x := by rw [at', if_neg (by omega), if_pos rfl]
      have p2 : (pins ls (k + 1) x).getD (k + 1 + 1) 0 = ls.getD (k + 1) 0 := by rw [at', if_neg (by omega), if_neg (by omega), Nat.add_sub_cancel]
      have q1 := Int.mul_le_mul a1.1 a1.1 (by omega) (by omega)
      have q2 := Int.mul_le_mul a1.2.1 a1.2.1 (by omega) (by omega)
      have q3 := Int.mul_le_mul a1.2.2.1 a1.2.2.1 (by omega) (by omega)
      have q4 := Int.mul_le_mul a1.2.2.2 a1.2.2.2 (by omega) (by omega)
      have m1 := Int.mul_le_mul_of_nonneg_left q1 (show 0 ≤ x - ls.getD k 0 by omega)
      have m2 := Int.mul_le_mul_of_nonneg_left q2 (show 0 ≤ ls.getD (k + 1) 0 - x by omega)
      have m3 := Int.mul_le_mul_of_nonneg_left q3 (show 0 ≤ x - ls.getD k 0 by omega)
      have m4 := Int.mul_le_mul_of_nonneg_left q4 (show 0 ≤ ls.getD (k + 1) 0 - x by omega)
      have sp : ∀ q : Int, (ls.getD (k + 1) 0 - ls.getD k 0) * q = (x - ls.getD k 0) * q + (ls.getD (k + 1) 0 - x) * q := fun q => by rw [← Int.add_mul]; congr 1; omega
      unfold enL enH
      rw [show enL l (pins ls (k + 1) x) (k + 1) = enL l (pins ls (k + 1) x) k + 3 * (((pins ls (k + 1) x).getD (k + 1) 0 - (pins ls (k + 1) x).getD k 0) * (slL l ((pins ls (k + 1) x).getD k 0) ((pins ls (k + 1) x).getD (k + 1) 0) * slL l ((pins ls (k + 1) x).getD k 0) ((pins ls (k + 1) x).getD (k + 1) 0))) from rfl,
        show enH l (pins ls (k + 1) x) (k + 1) = enH l (pins ls (k + 1) x) k + 3 * (((pins ls (k + 1) x).getD (k + 1) 0 - (pins ls (k + 1) x).getD k 0) * (slH l ((pins ls (k + 1) x).getD k 0) ((pins ls (k + 1) x).getD (k + 1) 0) * slH l ((pins ls (k + 1) x).getD k 0) ((pins ls (k + 1) x).getD (k + 1) 0))) from rfl]
      rw [e1, e2, p0, p1, p2, sp, sp]
      omega
    · obtain ⟨e1, e2⟩ := ih (by omega) (by omega)
      have p1 : (pins ls i x).getD (k + 1) 0 = ls.getD k 0 := by rw [at', if_neg (by omega), if_neg (by omega), Nat.add_sub_cancel]
      have p2 : (pins ls i x).getD (k + 1 + 1) 0 = ls.getD (k + 1) 0 := by rw [at', if_neg (by omega), if_neg (by omega), Nat.add_sub_cancel]
      show enL l ls k + _ ≤ enL l (pins ls i x) (k + 1) + 3 * (((pins ls i x).getD (k + 1 + 1) 0 - (pins ls i x).getD (k + 1) 0) * (slL l ((pins ls i x).getD (k + 1) 0) ((pins ls i x).getD (k + 1 + 1) 0) * slL l ((pins ls i x).getD (k + 1) 0) ((pins ls i x).getD (k + 1 + 1) 0))) ∧ enH l (pins ls i x) (k + 1) + 3 * (((pins ls i x).getD (k + 1 + 1) 0 - (pins ls i x).getD (k + 1) 0) * (slH l ((pins ls i x).getD (k + 1) 0) ((pins ls i x).getD (k + 1 + 1) 0) * slH l ((pins ls i x).getD (k + 1) 0) ((pins ls i x).getD (k + 1 + 1) 0))) ≤ enH l ls k + _
      rw [p1, p2]
      omega
/-- a cylinder -/
theorem en_cyl {X r : Int} {ls : List Int} (hX : 0 < X ∧ X ≤ 100000) (hr : 1 ≤ r ∧ r ≤ 100000) (hR : RP [(0, r), (X, r)]) (hP : LvR [(0, r), (X, r)] ls) (k : Nat) (hk : k < ls.length) :
    enL [(0, r), (X, r)] ls k = 3 * r * r * (ls.getD k 0 - ls.getD 0 0) ∧ enH [(0, r), (X, r)] ls k = 3 * r * r * (ls.getD k 0 - ls.getD 0 0) := by
  have rdc : ∀ x, 0 ≤ x → x ≤ X → rdL [(0, r), (X, r)] x = r ∧ rdH [(0, r), (X, r)] x = r := fun x x0 x1 => by
    obtain ⟨e1, e2⟩ := rd_piece hR (k := 0) (by simp) (x := x) x0 x1
    have e : ∀ y, lnN 0 r X r y = r * (X - 0) := fun y => by unfold lnN; simp
    have g : gX [(0, r), (X, r)] 0 = 0 ∧ gX [(0, r), (X, r)] (0 + 1) = X ∧ gR [(0, r), (X, r)] 0 = r ∧ gR [(0, r), (X, r)] (0 + 1) = r := ⟨rfl, rfl, rfl, rfl⟩
    rw [g.1, g.2.1, g.2.2.1, g.2.2.2] at e1 e2
    rw [e1, e2]
    unfold lnL lnH
    rw [e, fl_int _ _ (by omega), cl_int _ _ (by omega)]
    exact ⟨rfl, rfl⟩
  induction k with
  | zero => simp [enL, enH]
  | succ k ih =>
    obtain ⟨e1, e2⟩ := ih (by omega)
    have b0 := hP.bd k (by omega)
    have b1 := hP.bd (k + 1) hk
    have gl : gX [(0, r), (X, r)] ([(0, r), (X, r)].length - 1) = X := rfl
    rw [gl] at b0 b1
    obtain ⟨u1, u2⟩ := rdc _ b0.1 b0.2
    obtain ⟨v1, v2⟩ := rdc _ b1.1 b1.2
    unfold enL enH slL slH
    rw [u1, u2, v1, v2, e1, e2, show min r r = r by omega, show max r r = r by omega]
    have e : 3 * ((ls.getD (k + 1) 0 - ls.getD k 0) * (r * r)) = 3 * r * r * (ls.getD (k + 1) 0 - ls.getD k 0) := by grind
    rw [e, ← Int.mul_add, show ls.getD k 0 - ls.getD 0 0 + (ls.getD (k + 1) 0 - ls.getD k 0) = ls.getD (k + 1) 0 - ls.getD 0 0 by omega]
    exact ⟨rfl, rfl⟩
end Go.Proofs.YtmdpdpbkbakidaaGreat

/- Plain facts: the levels of a standing cask. -/
namespace Go.Proofs.YtmdpdpbkbakidaaGreat

theorem bl_mem (l : List (Int × Int)) (d : Int) (k : Nat) (x : Int) : x ∈ blS l d k ↔ ∃ j, j < k ∧ gX l j < d ∧ gX l j = x := by
  induction k with
  | zero => simp [blS]
  | succ k ih =>
    unfold blS
    by_cases h : gX l k < d
    · rw [if_pos h, List.mem_append, ih, List.mem_singleton]
      constructor
      · rintro (⟨j, h1, h2⟩ | rfl)
        · exact ⟨j, by omega, h2⟩
        · exact ⟨k, by omega, h, rfl⟩
      · rintro ⟨j, h1, h2, h3⟩
        by_cases g : j = k
        · right; rw [← h3, g]
        · left; exact ⟨j, by omega, h2, h3⟩
    · rw [if_neg h, ih]
      constructor
      · rintro ⟨j, h1, h2⟩; exact ⟨j, by omega, h2⟩
      · rintro ⟨j, h1, h2, h3⟩
        by_cases g : j = k
        · rw [g] at h2; exact absurd h2 h
        · exact ⟨j, by omega, h2, h3⟩
theorem mu_bd {d : Int} {n i : Nat} (d0 : 0 ≤ d) (n1 : 1 ≤ n) (hi : i ≤ n) : 0 ≤ muF d n i ∧ muF d n i ≤ d := by
  unfold muF
  have m0 := Int.mul_nonneg (show 0 ≤ (i : Int) by omega) d0
  refine ⟨Int.ediv_nonneg m0 (by omega), ?_⟩
  have := Int.ediv_le_ediv (show 0 < (n : Int) by omega) (Int.mul_le_mul_of_nonneg_right (show (i : Int) ≤ n by omega) d0)
  rwa [Int.mul_ediv_cancel_left _ (by omega)] at this
theorem mu_end (d : Int) {n : Nat} (n1 : 1 ≤ n) : muF d n 0 = 0 ∧ muF d n n = d := by
  unfold muF
  exact ⟨by simp, Int.mul_ediv_cancel_left _ (by omega)⟩
/-- the n-fold levels up to a dip -/
def lvL (l : List (Int × Int)) (d : Int) (n : Nat) : List Int := mrgI ((List.range (n + 1)).map (muF d n) ++ blS l d l.length)
theorem lv_mem {l : List (Int × Int)} {d : Int} {n : Nat} {x : Int} : x ∈ lvL l d n ↔ (∃ i, i ≤ n ∧ muF d n i = x) ∨ ∃ j, j < l.length ∧ gX l j < d ∧ gX l j = x := by
  unfold lvL
  rw [(mrg_facts _).2.1, List.mem_append, bl_mem, List.mem_map]
  constructor
  · rintro (⟨i, h1, h2⟩ | h)
    · left; exact ⟨i, by have := List.mem_range.1 h1; omega, h2⟩
    · right; exact h
  · rintro (⟨i, h1, h2⟩ | h)
    · left; exact ⟨i, List.mem_range.2 (by omega), h2⟩
    · right; exact h
theorem lv_len (l : List (Int × Int)) (d : Int) (n : Nat) : (lvL l d n).length ≤ n + 1 + l.length := by
  have := (mrg_facts ((List.range (n + 1)).map (muF d n) ++ blS l d l.length)).2.2
  have b := blS_len l d l.length
  rw [List.length_append, List.length_map, List.length_range] at this
  unfold lvL
  omega
theorem lv_asc (l : List (Int × Int)) (d : Int) (n : Nat) : (lvL l d n).Pairwise (· < ·) := (mrg_facts _).1
theorem lv_bd {l : List (Int × Int)} {d : Int} {n : Nat} (hR : RP l) (d0 : 0 ≤ d) (n1 : 1 ≤ n) {x : Int} (h : x ∈ lvL l d n) : 0 ≤ x ∧ x ≤ d := by
  rcases lv_mem.1 h with ⟨i, hi, rfl⟩ | ⟨j, hj, h1, rfl⟩
  · exact mu_bd d0 n1 hi
  · have := hR.bx j hj; omega
theorem lv_has {l : List (Int × Int)} {d : Int} {n : Nat} (n1 : 1 ≤ n) : (0 : Int) ∈ lvL l d n ∧ d ∈ lvL l d n :=
  ⟨lv_mem.2 (.inl ⟨0, by omega, (mu_end d n1).1⟩), lv_mem.2 (.inl ⟨n, Nat.le_refl _, (mu_end d n1).2⟩)⟩
theorem lv_ends {l : List (Int × Int)} {d : Int} {n : Nat} (hR : RP l) (d0 : 0 ≤ d) (n1 : 1 ≤ n) : 1 ≤ (lvL l d n).length ∧ (lvL l d n).getD 0 0 = 0 ∧ (lvL l d n).getD ((lvL l d n).length - 1) 0 = d := by
  obtain ⟨i, hi, ei⟩ := mem_at.1 (lv_has (l := l) (d := d) n1).1
  obtain ⟨j, hj, ej⟩ := mem_at.1 (lv_has (l := l) (d := d) n1).2
  refine ⟨by omega, ?_, ?_⟩
  · have b := lv_bd hR d0 n1 (mem_at.2 ⟨0, by omega, rfl⟩)
    by_cases g : i = 0
    · rw [g] at ei; exact ei
    · have := str_at (lv_asc l d n) (show 0 < i by omega) hi; omega
  · have b := lv_bd hR d0 n1 (mem_at.2 ⟨(lvL l d n).length - 1, by omega, rfl⟩)
    by_cases g : j = (lvL l d n).length - 1
    · rw [g] at ej; exact ej
    · have := str_at (lv_asc l d n) (show j < (lvL l d n).length - 1 by omega) (by omega); omega
/-- they are right levels -/
theorem lv_right {l : List (Int × Int)} {d : Int} {n : Nat} (hR : RP l) (d0 : 0 < d) (d1 : d ≤ gX l (l.length - 1)) (n1 : 1 ≤ n) (n2 : n ≤ 64) : LvR l (lvL l d n) := by
  obtain ⟨e0, e1, e2⟩ := lv_ends hR (show 0 ≤ d by omega) n1
  have ln := lv_len l d n
  have nl := hR.n1
  refine ⟨?_, by omega, fun i hi => ?_, fun i hi => str_at (lv_asc l d n) (by omega) hi, fun j hj h1 h2 => ?_⟩
  · by_cases g : (lvL l d n).length = 1
    · rw [g] at e2
      rw [e1] at e2
      omega
    · omega
  · have := lv_bd hR (show 0 ≤ d by omega) n1 (mem_at.2 ⟨i, hi, rfl⟩)
    omega
  · rw [e2] at h2
    exact mem_at.1 (lv_mem.2 (.inr ⟨j, hj, h2, rfl⟩))
/-! ### the next level -/
def nxA (d : Int) (n : Nat) (x : Int) : Nat → Int
  | 0 => d
  | k + 1 => if x < muF d n k ∧ muF d n k < nxA d n x k then muF d n k else nxA d n x k
def nxB (l : List (Int × Int)) (d : Int) (n : Nat) (x : Int) : Nat → Int
  | 0 => nxA d n x (n + 1)
  | k + 1 => if x < gX l k ∧ gX l k < nxB l d n x k then gX l k else nxB l d n x k
theorem nxA_facts {d : Int} {n : Nat} {x : Int} (n1 : 1 ≤ n) (hx : x < d) (k : Nat) (hk : k ≤ n + 1) : x < nxA d n x k ∧ nxA d n x k ≤ d ∧ (∃ i, i ≤ n ∧ muF d n i = nxA d n x k) ∧ ∀ i, i < k → x < muF d n i → nxA d n x k ≤ muF d n i := by
  induction k with
  | zero => exact ⟨hx, Int.le_refl _, ⟨n, Nat.le_refl _, (mu_end d n1).2⟩, fun i hi => by omega⟩
  | succ k ih =>
    obtain ⟨a, b, c, e⟩ := ih (by omega)
    unfold nxA
    by_cases g : x < muF d n k ∧ muF d n k < nxA d n x k
    · rw [if_pos g]
      refine ⟨g.1, by omega, ⟨k, by omega, rfl⟩, fun i hi hx => ?_⟩
      by_cases q : i = k
      · rw [q]; exact Int.le_refl _
      · have := e i (by omega) hx; omega
    · rw [if_neg g]
      refine ⟨a, b, c, fun i hi hx => ?_⟩
      by_cases q : i = k
      · subst q; omega
      · exact e i (by omega) hx
theorem nxB_facts {l : List (Int × Int)} {d : Int} {n : Nat} {x : Int} (n1 : 1 ≤ n) (hx : x < d) (k : Nat) (hk : k ≤ l.length) : x < nxB l d n x k ∧ nxB l d n x k ≤ d ∧ nxB l d n x k ∈ lvL l d n ∧ (∀ i, i ≤ n → x < muF d n i → nxB l d n x k ≤ muF d n i) ∧ ∀ j, j < k → x < gX l j → gX l j < d → nxB l d n x k ≤ gX l j := by
  induction k with
  | zero =>
    obtain ⟨a, b, c, e⟩ := nxA_facts n1 hx (n + 1) (Nat.le_refl _)
    exact ⟨a, b, lv_mem.2 (.inl c), fun i hi hx => e i (by omega) hx, fun j hj => by omega⟩
  | succ k ih =>
    obtain ⟨a, b, c, e, f⟩ := ih (by omega)
    unfold nxB
    by_cases g : x < gX l k ∧ gX l k < nxB l d n x k
    · rw [if_pos g]
      refine ⟨g.1, by omega, lv_mem.2 (.inr ⟨k, by omega, by omega, rfl⟩), fun i hi hx => ?_, fun j hj h1 h2 => ?_⟩
      · have := e i hi hx; omega
      · by_cases q : j = k
        · rw [q]; exact Int.le_refl _
        · have := f j (by omega) h1 h2; omega
    · rw [if_neg g]
      refine ⟨a, b, c, e, fun j hj h1 h2 => ?_⟩
      by_cases q : j = k
      · subst q; omega
      · exact f j (by omega) h1 h2
/-- the levels up to the last one that was found -/
structure MgP (l : List (Int × Int)) (d : Int) (n : Nat) (L : List Int) (x : Int) : Prop where
  n0 : 1 ≤ L.length
  last : L.getD (L.length - 1) 0 = x
  asc : L.Pairwise (· < ·)
  x0 : 0 ≤ x
  x1 : x ≤ d
  len : (L.length : Int) ≤ x + 1
  mem : ∀ y, y ∈ L ↔ y ∈ lvL l d n ∧ y ≤ x
theorem MgP.start {l : List (Int × Int)} {d : Int} {n : Nat} (hR : RP l) (d0 : 0 ≤ d) (n1 : 1 ≤ n) : MgP l d n [0] 0 := by
  refine ⟨by simp, rfl, by simp, Int.le_refl _, d0, by simp, fun y => ?_⟩
  rw [List.mem_singleton]
  constructor
  · rintro rfl; exact ⟨(lv_has n1).1, Int.le_refl _⟩
  · rintro ⟨h1, h2⟩
    have := lv_bd hR d0 n1 h1; omega
theorem MgP.step {l : List (Int × Int)} {d : Int} {n : Nat} {L : List Int} {x : Int} (h : MgP l d n L x) (n1 : 1 ≤ n) (hx : x < d) : MgP l d n (L ++ [nxB l d n x l.length]) (nxB l d n x l.length) := by
  obtain ⟨a, b, c, e, f⟩ := nxB_facts (l := l) n1 hx l.length (Nat.le_refl _)
  refine ⟨by rw [List.length_append]; simp, ?_, ?_, by have := h.x0; omega, b, ?_, fun y => ?_⟩
  · rw [List.length_append, List.length_singleton, Nat.add_sub_cancel, getD_snoc, if_neg (by omega), if_pos rfl]
  · rw [List.pairwise_append]
    refine ⟨h.asc, by simp, fun y hy z hz => ?_⟩
    rw [List.mem_singleton] at hz
    subst hz
    have := ((h.mem y).1 hy).2; omega
  · have := h.len
    rw [List.length_append, List.length_singleton]; omega
  · rw [List.mem_append, List.mem_singleton, h.mem]
    constructor
    · rintro (⟨h1, h2⟩ | rfl)
      · exact ⟨h1, by omega⟩
      · exact ⟨c, Int.le_refl _⟩
    · rintro ⟨h1, h2⟩
      by_cases g : y ≤ x
      · exact .inl ⟨h1, g⟩
      · right
        rcases lv_mem.1 h1 with ⟨i, hi, rfl⟩ | ⟨j, hj, h3, rfl⟩
        · have := e i hi (by omega); omega
        · have := f j hj (by omega) h3; omega
theorem MgP.done {l : List (Int × Int)} {d : Int} {n : Nat} {L : List Int} (hR : RP l) (n1 : 1 ≤ n) (h : MgP l d n L d) : L = lvL l d n :=
  str_ext h.asc (lv_asc l d n) fun y => by
    rw [h.mem]
    exact ⟨fun k => k.1, fun k => ⟨k, (lv_bd hR (by have := h.x0; omega) n1 k).2⟩⟩
end Go.Proofs.YtmdpdpbkbakidaaGreat

/- Plain facts: the first fault of levels. No program stands in this text. -/
namespace Go.Proofs.YtmdpdpbkbakidaaGreat

def lvOut (X : Int) (y : Int) : Bool := decide (y < 0) || decide (X < y)
/-- a point between the first and the last level that is none of them -/
def lvMis (ls : List Int) (x : Int) : Bool := decide (ls.getD 0 0 < x) && (decide (x < ls.getD (ls.length - 1) 0) && !ls.any (fun y => y == x))
def stAsc (ls : List Int) : Bool := (List.range (ls.length - 1)).all (fun i => decide (ls.getD i 0 < ls.getD (i + 1) 0))
def misB (l : List (Int × Int)) (ls : List Int) : Bool := (List.range l.length).any (fun j => lvMis ls (gX l j))
def svE (l : List (Int × Int)) (ls : List Int) : Int :=
  if ls.length < 2 then 9 else if 128 < ls.length then 8 else if ls.any (lvOut (gX l (l.length - 1))) = true then 2 else if stAsc ls = false then 5 else if misB l ls = true then 7 else 0
def stE (c : Ck) (ls : List Int) : Int := if stSE c = 0 then svE c.pf ls else stSE c
theorem stAsc_iff (ls : List Int) : stAsc ls = true ↔ ∀ i, i + 1 < ls.length → ls.getD i 0 < ls.getD (i + 1) 0 := by
  unfold stAsc
  rw [List.all_eq_true]
  constructor
  · intro h i hi
    exact of_decide_eq_true (h i (List.mem_range.2 (by omega)))
  · intro h i hi
    rw [List.mem_range] at hi
    exact decide_eq_true (h i (by omega))
theorem anyI_iff (p : Int → Bool) (ps : List Int) : ps.any p = true ↔ ∃ i, i < ps.length ∧ p (ps.getD i 0) = true := by
  rw [List.any_eq_true]
  constructor
  · rintro ⟨y, hy, e⟩
    obtain ⟨i, hi, rfl⟩ := List.getElem_of_mem hy
    exact ⟨i, hi, by rw [List.getD_eq_getElem?_getD, List.getElem?_eq_getElem hi, Option.getD_some]; exact e⟩
  · rintro ⟨i, hi, e⟩
    rw [List.getD_eq_getElem?_getD, List.getElem?_eq_getElem hi, Option.getD_some] at e
    exact ⟨_, List.getElem_mem hi, e⟩
theorem misB_iff (l : List (Int × Int)) (ls : List Int) : misB l ls = true ↔ ∃ j, j < l.length ∧ lvMis ls (gX l j) = true := by
  unfold misB
  rw [List.any_eq_true]
  constructor
  · rintro ⟨j, hj, e⟩; exact ⟨j, List.mem_range.1 hj, e⟩
  · rintro ⟨j, hj, e⟩; exact ⟨j, List.mem_range.2 hj, e⟩
theorem lvMis_iff (ls : List Int) (x : Int) : lvMis ls x = true ↔ ls.getD 0 0 < x ∧ x < ls.getD (ls.length - 1) 0 ∧ ∀ i, i < ls.length → ls.getD i 0 ≠ x := by
  unfold lvMis
  rw [Bool.and_eq_true, Bool.and_eq_true, decide_eq_true_eq, decide_eq_true_eq, Bool.not_eq_true', Bool.eq_false_iff, ne_eq, anyI_iff]
  constructor
  · rintro ⟨a, b, c⟩
    exact ⟨a, b, fun i hi e => c ⟨i, hi, by simpa using e⟩⟩
  · rintro ⟨a, b, c⟩
    exact ⟨a, b, fun ⟨i, hi, e⟩ => c i hi (by simpa using e)⟩
theorem svE_iff {l : List (Int × Int)} {ls : List Int} : svE l ls = 0 ↔ LvR l ls := by
  unfold svE
  constructor
  · intro h
    split at h
    · omega
    · split at h
      · omega
      · split at h
        · omega
        · split at h
          · omega
          · split at h
            · omega
            · rename_i h1 h2 h3 h4 h5
              refine ⟨by omega, by omega, fun i hi => ?_, (stAsc_iff ls).1 (by simpa using h4), fun j hj g0 g1 => ?_⟩
              · cases hq : lvOut (gX l (l.length - 1)) (ls.getD i 0) with
                | true => exact absurd ((anyI_iff _ _).2 ⟨i, hi, hq⟩) h3
                | false =>
                  unfold lvOut at hq
                  rw [Bool.or_eq_false_iff, decide_eq_false_iff_not, decide_eq_false_iff_not] at hq
                  omega
              · apply Classical.byContradiction
                intro hn
                exact h5 ((misB_iff l ls).2 ⟨j, hj, (lvMis_iff ls _).2 ⟨g0, g1, fun i hi e => hn ⟨i, hi, e⟩⟩⟩)
  · intro h
    have n0 := h.n0
    have n1 := h.n1
    rw [if_neg (by omega), if_neg (by omega), if_neg, if_neg, if_neg]
    · intro hm
      obtain ⟨j, hj, hx⟩ := (misB_iff l ls).1 hm
      obtain ⟨a, b, c⟩ := (lvMis_iff ls _).1 hx
      obtain ⟨i, hi, e⟩ := h.has j hj a b
      exact c i hi e
    · rw [Bool.not_eq_false]; exact (stAsc_iff ls).2 h.asc
    · intro ho
      obtain ⟨i, hi, e⟩ := (anyI_iff _ _).1 ho
      have := h.bd i hi
      unfold lvOut at e
      rw [Bool.or_eq_true, decide_eq_true_eq, decide_eq_true_eq] at e
      omega
theorem stSE_zero {c : Ck} : stSE c = 0 ↔ ccE c = 0 ∧ c.ps = 2 := by
  unfold stSE
  by_cases h : ccE c = 0
  · rw [if_pos h]
    by_cases g : c.ps = 2
    · rw [if_pos g]; simp [h, g]
    · rw [if_neg g]; simp [g]
  · rw [if_neg h]; simp [h]
theorem stE_zero {c : Ck} {ls : List Int} : stE c ls = 0 ↔ (ccE c = 0 ∧ c.ps = 2) ∧ LvR c.pf ls := by
  unfold stE
  by_cases h : stSE c = 0
  · rw [if_pos h, svE_iff]
    exact ⟨fun g => ⟨stSE_zero.1 h, g⟩, fun g => g.2⟩
  · rw [if_neg h]
    exact ⟨fun g => absurd g h, fun g => absurd (stSE_zero.2 g.1) h⟩
/-- what Levels returns -/
def lvsE (l : List (Int × Int)) (d n : Int) : Int := if ckE l = 0 then (if d < 0 ∨ gX l (l.length - 1) < d ∨ n < 1 ∨ 64 < n then 2 else 0) else 1
def lvsL (l : List (Int × Int)) (d n : Int) : List Int := if lvsE l d n = 0 then lvL l d n.toNat else []
theorem lvsE_zero {l : List (Int × Int)} {d n : Int} : lvsE l d n = 0 ↔ RP l ∧ (0 ≤ d ∧ d ≤ gX l (l.length - 1)) ∧ 1 ≤ n ∧ n ≤ 64 := by
  unfold lvsE
  by_cases h : ckE l = 0
  · rw [if_pos h, ← ckE_iff]
    split <;> omega
  · rw [if_neg h, ← ckE_iff]
    omega
/-- what Sums returns -/
noncomputable def smS (l : List (Int × Int)) (ls : List Int) (k : Nat) : List (Int × Int) := (List.range k).map fun i => (enL l ls (i + 1), enH l ls (i + 1))
noncomputable def smL (c : Ck) (ls : List Int) : List (Int × Int) := if stE c ls = 0 then smS c.pf ls (ls.length - 1) else []
theorem smS_len (l : List (Int × Int)) (ls : List Int) (k : Nat) : (smS l ls k).length = k := by unfold smS; rw [List.length_map, List.length_range]
theorem smS_at {l : List (Int × Int)} {ls : List Int} {k i : Nat} (hi : i < k) : gX (smS l ls k) i = enL l ls (i + 1) ∧ gR (smS l ls k) i = enH l ls (i + 1) := by
  have : (smS l ls k).getD i (0, 0) = (enL l ls (i + 1), enH l ls (i + 1)) := by
    unfold smS
    rw [List.getD_eq_getElem?_getD, List.getElem?_map, List.getElem?_range hi]; rfl
  exact ⟨congrArg Prod.fst this, congrArg Prod.snd this⟩
theorem smS_next (l : List (Int × Int)) (ls : List Int) (k : Nat) : smS l ls (k + 1) = smS l ls k ++ [(enL l ls (k + 1), enH l ls (k + 1))] := by
  unfold smS; rw [List.range_succ, List.map_append]; rfl
/-- what Between returns -/
noncomputable def bwL (c : Ck) (ls : List Int) : Int := if stE c ls = 0 then enL c.pf ls (ls.length - 1) * 333 / 318 else 0
noncomputable def bwH (c : Ck) (ls : List Int) : Int := if stE c ls = 0 then (enH c.pf ls (ls.length - 1) * 355 + 338) / 339 else 0
/-- what Wet returns -/
def swE (c : Ck) (d n : Int) : Int := if stSE c = 0 then lvsE c.pf d n else stSE c
noncomputable def swL (c : Ck) (d n : Int) : Int := if swE c d n = 0 ∧ d ≠ 0 then enL c.pf (lvL c.pf d n.toNat) ((lvL c.pf d n.toNat).length - 1) * 333 / 318 else 0
noncomputable def swH (c : Ck) (d n : Int) : Int := if swE c d n = 0 ∧ d ≠ 0 then (enH c.pf (lvL c.pf d n.toNat) ((lvL c.pf d n.toNat).length - 1) * 355 + 338) / 339 else 0
end Go.Proofs.YtmdpdpbkbakidaaGreat

/- slices.ContainsFunc over points, and over integers, with a closure that captures one box. -/
namespace Go.Proofs.YtmdpdpbkbakidaaGreat
open Go.RowKit

set_option maxHeartbeats 8000000 in
theorem idxq_some (f q : Nat) (p : Nat → Bool) (eg : ∀ args w, (callFunc f args).run Tryz.prog w = .ok (.enter f args) w)
    (b off n cap : Nat) (l : List (Int × Int)) (B : Bool) (w : World) (n1 : n ≤ 1000) (hb : b < w.heap.size)
    (hc : Hid (∀ j, j < n → w.cell? ⟨b, off + j * 2, none⟩ = some (.int .i64 (gX l j)) ∧ w.cell? ⟨b, off + j * 2 + 1, none⟩ = some (.int .i64 (gR l j))))
    (hp : Hid (∀ j W, j < n → Below w.heap.size w W → Calls Tryz.prog f #[.agg #[.int .i64 (gX l j), .int .i64 (gR l j)], .pointer (some ⟨q, 0, none⟩)] W fun e w' => e = .returned (.bool (p j)) ∧ Below W.heap.size W w'))
    (h1 : Hid ((∃ j, j < n ∧ p j = true) → B = true)) (h2 : Hid ((∀ j, j < n → p j = false) → B = false)) :
    Calls Tryz.prog 58 #[.slice (some ⟨b, off, none⟩) n cap, .func (.func f) #[] #[.pointer (some ⟨q, 0, none⟩)]] w fun e w' => ∃ k : Int, e = .returned (.int .i64 k) ∧ decide (0 ≤ k) = B ∧ Below w.heap.size w w' := by
  go_enter Tryz.func58, Tryz.ntmps58
  go_wp2_with fail
  go_loopw [5, 8] (fun _ i wr => ∃ k : Nat, k ≤ n ∧ i = .int .i64 k ∧ Hid (Below w.heap.size w wr) ∧ Hid (∀ j, j < k → p j = false)) (fun _ i _ => n - (intOf i).toNat)
  case atStart => exact ⟨0, Nat.zero_le _, rfl, Below.refl _ _, fun j hj => by omega⟩
  case round =>
    obtain ⟨k, hk, rfl, hB, ha⟩ := hrel
    by_cases hlt : k < n
    · have c0 : wr.cell? ⟨b, off + k * 2, none⟩ = some (.int .i64 (gX l k)) := by rw [(bcell hB.out).1 _ _ hb]; exact (hc.out k hlt).1
      have c1 : wr.cell? ⟨b, off + k * 2 + 1, none⟩ = some (.int .i64 (gR l k)) := by rw [(bcell hB.out).1 _ _ hb]; exact (hc.out k hlt).2
      have HP := Lib.hid (fun W (hW : Below wr.heap.size wr W) => hp.out k W hlt (bel_trans hB.out hW))
      cases hq : p k with
      | true =>
        have hBt := h1.out ⟨k, hlt, hq⟩
        rw [hq] at HP
        generalize gX l k = x at *
        generalize gR l k = r at *
        go_wp2_with fail
        refine (HP.out _ (by first | exact Below.refl _ _ | exact bel_alloc (Below.refl _ _) | exact bel_drew _ | exact bel_alloc (bel_alloc (Below.refl _ _)))).mono ?_
        rintro e w2 ⟨rfl, gg⟩
        have X := Lib.hid (bel_trans hB.out gg); clear gg
        go_wp2
        go_returns
        exact ⟨k, rfl, by rw [hBt]; simp, X.out⟩
      | false =>
        have ha2 : Hid (∀ j, j < k + 1 → p j = false) := fun j hj => by
          by_cases e : j = k
          · rw [e]; exact hq
          · exact ha.out j (by omega)
        rw [hq] at HP
        clear hq ha
        generalize gX l k = x at c0 HP
        generalize gR l k = r at c1 HP
        go_wp2_with fail
        refine (HP.out _ (by first | exact Below.refl _ _ | exact bel_alloc (Below.refl _ _) | exact bel_drew _ | exact bel_alloc (bel_alloc (Below.refl _ _)))).mono ?_
        rintro e w2 ⟨rfl, gg⟩
        have X := Lib.hid (bel_trans hB.out gg); clear gg
        go_wp2
        go_roundw
        case rel => exact ⟨k + 1, by omega, by go_num, X, ha2⟩
        case measure => simp [intOf]; omega
    · obtain rfl : k = n := by omega
      have hBf := h2.out ha.out
      go_wp2
      go_returns
      exact ⟨-1, rfl, by rw [hBf]; simp, hB.out⟩
theorem conq_some (f q : Nat) (p : Nat → Bool) (eg : ∀ args w, (callFunc f args).run Tryz.prog w = .ok (.enter f args) w)
    (b off n cap : Nat) (l : List (Int × Int)) (B : Bool) (w : World) (n1 : n ≤ 1000) (hb : b < w.heap.size)
    (hc : Hid (∀ j, j < n → w.cell? ⟨b, off + j * 2, none⟩ = some (.int .i64 (gX l j)) ∧ w.cell? ⟨b, off + j * 2 + 1, none⟩ = some (.int .i64 (gR l j))))
    (hp : Hid (∀ j W, j < n → Below w.heap.size w W → Calls Tryz.prog f #[.agg #[.int .i64 (gX l j), .int .i64 (gR l j)], .pointer (some ⟨q, 0, none⟩)] W fun e w' => e = .returned (.bool (p j)) ∧ Below W.heap.size W w'))
    (h1 : Hid ((∃ j, j < n ∧ p j = true) → B = true)) (h2 : Hid ((∀ j, j < n → p j = false) → B = false)) :
    Calls Tryz.prog 39 #[.slice (some ⟨b, off, none⟩) n cap, .func (.func f) #[] #[.pointer (some ⟨q, 0, none⟩)]] w fun e w' => e = .returned (.bool B) ∧ Below w.heap.size w w' := by
  have HI := Lib.hid (idxq_some f q p eg b off n cap l B w n1 hb hc hp h1 h2)
  clear eg hp hc h1 h2
  go_enter Tryz.func39, Tryz.ntmps39
  go_wp2_with fail
  refine HI.out.mono ?_
  rintro e w1 ⟨k, rfl, hk, hb⟩
  have HB := Lib.hid hb; clear hb
  subst hk
  go_wp2
  all_goals
    go_ret
    exact ⟨by simp_all, HB.out⟩
set_option maxHeartbeats 8000000 in
theorem idxi_some (f q : Nat) (p : Nat → Bool) (eg : ∀ args w, (callFunc f args).run Tryz.prog w = .ok (.enter f args) w)
    (b off n cap : Nat) (l : List Int) (B : Bool) (w : World) (n1 : n ≤ 1000) (hb : b < w.heap.size)
    (hc : Hid (∀ j, j < n → w.cell? ⟨b, off + j, none⟩ = some (.int .i64 (l.getD j 0))))
    (hp : Hid (∀ j W, j < n → Below w.heap.size w W → Calls Tryz.prog f #[.int .i64 (l.getD j 0), .pointer (some ⟨q, 0, none⟩)] W fun e w' => e = .returned (.bool (p j)) ∧ Below W.heap.size W w'))
    (h1 : Hid ((∃ j, j < n ∧ p j = true) → B = true)) (h2 : Hid ((∀ j, j < n → p j = false) → B = false)) :
    Calls Tryz.prog 57 #[.slice (some ⟨b, off, none⟩) n cap, .func (.func f) #[] #[.pointer (some ⟨q, 0, none⟩)]] w fun e w' => ∃ k : Int, e = .returned (.int .i64 k) ∧ decide (0 ≤ k) = B ∧ Below w.heap.size w w' := by
  go_enter Tryz.func57, Tryz.ntmps57
  go_wp2_with fail
  go_loopw [5, 8] (fun _ i wr => ∃ k : Nat, k ≤ n ∧ i = .int .i64 k ∧ Hid (Below w.heap.size w wr) ∧ Hid (∀ j, j < k → p j = false)) (fun _ i _ => n - (intOf i).toNat)
  case atStart => exact ⟨0, Nat.zero_le _, rfl, Below.refl _ _, fun j hj => by omega⟩
  case round =>
    obtain ⟨k, hk, rfl, hB, ha⟩ := hrel
    by_cases hlt : k < n
    · have c0 : wr.cell? ⟨b, off + k, none⟩ = some (.int .i64 (l.getD k 0)) := by rw [(bcell hB.out).1 _ _ hb]; exact hc.out k hlt
      have HP := Lib.hid (fun W (hW : Below wr.heap.size wr W) => hp.out k W hlt (bel_trans hB.out hW))
      cases hq : p k with
      | true =>
        have hBt := h1.out ⟨k, hlt, hq⟩
        rw [hq] at HP
        generalize l.getD k 0 = x at *
        go_wp2_with fail
        refine (HP.out _ (by first | exact Below.refl _ _ | exact bel_alloc (Below.refl _ _) | exact bel_drew _ | exact bel_alloc (bel_alloc (Below.refl _ _)))).mono ?_
        rintro e w2 ⟨rfl, gg⟩
        have X := Lib.hid (bel_trans hB.out gg); clear gg
        go_wp2
        go_returns
        exact ⟨k, rfl, by rw [hBt]; simp, X.out⟩
      | false =>
        have ha2 : Hid (∀ j, j < k + 1 → p j = false) := fun j hj => by
          by_cases e : j = k
          · rw [e]; exact hq
          · exact ha.out j (by omega)
        rw [hq] at HP
        clear hq ha
        generalize l.getD k 0 = x at c0 HP
        go_wp2_with fail
        refine (HP.out _ (by first | exact Below.refl _ _ | exact bel_alloc (Below.refl _ _) | exact bel_drew _ | exact bel_alloc (bel_alloc (Below.refl _ _)))).mono ?_
        rintro e w2 ⟨rfl, gg⟩
        have X := Lib.hid (bel_trans hB.out gg); clear gg
        go_wp2
        go_roundw
        case rel => exact ⟨k + 1, by omega, by go_num, X, ha2⟩
        case measure => simp [intOf]; omega
    · obtain rfl : k = n := by omega
      have hBf := h2.out ha.out
      go_wp2
      go_returns
      exact ⟨-1, rfl, by rw [hBf]; simp, hB.out⟩
theorem coni_some (f q : Nat) (p : Nat → Bool) (eg : ∀ args w, (callFunc f args).run Tryz.prog w = .ok (.enter f args) w)
    (b off n cap : Nat) (l : List Int) (B : Bool) (w : World) (n1 : n ≤ 1000) (hb : b < w.heap.size)
    (hc : Hid (∀ j, j < n → w.cell? ⟨b, off + j, none⟩ = some (.int .i64 (l.getD j 0))))
    (hp : Hid (∀ j W, j < n → Below w.heap.size w W → Calls Tryz.prog f #[.int .i64 (l.getD j 0), .pointer (some ⟨q, 0, none⟩)] W fun e w' => e = .returned (.bool (p j)) ∧ Below W.heap.size W w'))
    (h1 : Hid ((∃ j, j < n ∧ p j = true) → B = true)) (h2 : Hid ((∀ j, j < n → p j = false) → B = false)) :
    Calls Tryz.prog 37 #[.slice (some ⟨b, off, none⟩) n cap, .func (.func f) #[] #[.pointer (some ⟨q, 0, none⟩)]] w fun e w' => e = .returned (.bool B) ∧ Below w.heap.size w w' := by
  have HI := Lib.hid (idxi_some f q p eg b off n cap l B w n1 hb hc hp h1 h2)
  clear eg hp hc h1 h2
  go_enter Tryz.func37, Tryz.ntmps37
  go_wp2_with fail
  refine HI.out.mono ?_
  rintro e w1 ⟨k, rfl, hk, hb⟩
  have HB := Lib.hid hb; clear hb
  subst hk
  go_wp2
  all_goals
    go_ret
    exact ⟨by simp_all, HB.out⟩
end Go.Proofs.YtmdpdpbkbakidaaGreat

/- Package root: exactly, between. -/
namespace Go.Proofs.YtmdpdpbkbakidaaGreat
open Go.RowKit

/-- both ends of the search -/
def BI (n lo hi : Int) : Prop := 0 ≤ n ∧ -1 ≤ lo ∧ lo < hi ∧ 1 ≤ hi ∧ hi ≤ 1073741824 ∧ (lo = -1 ∨ lo * lo < n) ∧ n < hi * hi
theorem BI.start (n : Int) (h0 : 0 ≤ n) (h1 : n < 1152921504606846976) : BI n (-1) 1073741824 := ⟨h0, by omega, by omega, by omega, by omega, .inl rfl, by omega⟩
theorem BI.hi1 {n lo hi : Int} (h : BI n lo hi) (m : Int) (h0 : 0 ≤ m) (hl : lo < m) (hh : m < hi) (hm : n < m * m) : BI n lo m := by
  obtain ⟨a, b, c, d, e, f, g⟩ := h
  refine ⟨a, b, hl, ?_, by omega, f, hm⟩
  apply Classical.byContradiction
  intro hn
  obtain rfl : m = 0 := by omega
  omega
theorem BI.lo1 {n lo hi : Int} (h : BI n lo hi) (m : Int) (h0 : 0 ≤ m) (hl : lo < m) (hh : m < hi) (hm : m * m < n) : BI n m hi := by
  obtain ⟨a, b, c, d, e, f, g⟩ := h
  exact ⟨a, by omega, hh, d, e, .inr hm, g⟩
theorem BI.mid {n lo hi : Int} (h : BI n lo hi) : ∃ m, (lo + hi) / 2 = m ∧ 0 ≤ lo + hi ∧ lo + hi ≤ 2147483648 ∧ 0 ≤ m ∧ m ≤ 1073741824 ∧ lo ≤ m ∧ m < hi ∧ (hi - lo ≠ 1 → lo < m) ∧ 0 ≤ m * m ∧ m * m ≤ 1152921504606846976 := by
  obtain ⟨a, b, c, d, e, f, g⟩ := h
  have h1 : 0 ≤ (lo + hi) / 2 ∧ (lo + hi) / 2 ≤ 1073741824 := by omega
  have := sq_mono h1.1 h1.2
  exact ⟨_, rfl, by omega, by omega, h1.1, h1.2, by omega, by omega, by omega, Int.mul_nonneg h1.1 h1.1, by omega⟩
theorem BI.found {n lo hi : Int} (h : BI n lo hi) (m : Int) (h0 : 0 ≤ m) (hm : m * m = n) : rt n = m ∧ ce n = m := by
  subst hm
  exact ⟨rt_sq m h0, ce_sq m h0⟩
theorem BI.done {n lo hi : Int} (h : BI n lo hi) (h1 : hi - lo = 1) : rt n = lo ∧ ce n = hi := by
  obtain ⟨a, b, c, d, e, f, g⟩ := h
  obtain rfl : hi = lo + 1 := by omega
  have hl : lo * lo < n := by
    rcases f with rfl | f
    · omega
    · exact f
  have hr : rt n = lo := rt_of (by omega) (by omega) g
  refine ⟨hr, ?_⟩
  unfold ce
  rw [hr, if_pos hl]

def num? (w : World) (p : Addr) : Int := intOf ((w.cell? p).getD (.int .i64 0))
theorem num_at {w : World} {p : Addr} {a : Int} (h : w.cell? p = some (.int .i64 a)) : num? w p = a := by unfold num?; rw [h]; rfl

end Go.Proofs.YtmdpdpbkbakidaaGreat

/- Package root: half chords, chords. -/
namespace Go.Proofs.YtmdpdpbkbakidaaGreat
open Go.RowKit

theorem field_low (a b : Int) (w : World) : (Instr.field 29 (.agg #[.int .i64 a, .int .i64 b]) 0).run Tryz.prog w = .ok (.int .i64 a) w := by kernel_rfl
theorem field_high (a b : Int) (w : World) : (Instr.field 29 (.agg #[.int .i64 a, .int .i64 b]) 1).run Tryz.prog w = .ok (.int .i64 b) w := by kernel_rfl

theorem hf_not {r y : Int} (h : hfB r y = false) : r < 0 ∨ (0 ≤ r ∧ 100000 < r) ∨ ((0 ≤ r ∧ r ≤ 100000) ∧ y < -100000) ∨ ((0 ≤ r ∧ r ≤ 100000) ∧ -100000 ≤ y ∧ 100000 < y) := by
  have : ¬ ((0 ≤ r ∧ r ≤ 100000) ∧ -100000 ≤ y ∧ y ≤ 100000) := fun hc => by rw [(hfB_iff r y).2 hc] at h; cases h
  omega
end Go.Proofs.YtmdpdpbkbakidaaGreat

/- Package segment: lengths, heights, chords of a circle. -/
namespace Go.Proofs.YtmdpdpbkbakidaaGreat
open Go.RowKit

/-- a distance that lies above what root allows has no chord -/
theorem hf_min (r d : Int) (h0 : 0 ≤ r) (h1 : r ≤ 100000) (d0 : -100000 ≤ d) : hfL r (min d 100000) = hcL r d ∧ hfH r (min d 100000) = hcH r d := by
  have hb : hfB r (min d 100000) = true := (hfB_iff _ _).2 ⟨⟨h0, h1⟩, by omega, by omega⟩
  unfold hfL hfH
  rw [if_pos hb, if_pos hb]
  by_cases hd : d ≤ 100000
  · rw [show min d 100000 = d by omega]; exact ⟨rfl, rfl⟩
  · rw [show min d 100000 = 100000 by omega]
    have e1 : hcL r d = 0 := by unfold hcL; rw [if_pos (by omega)]
    have e2 : hcH r d = 0 := by unfold hcH; rw [if_pos (by omega)]
    rw [e1, e2]
    by_cases hr : r < 100000
    · unfold hcL hcH
      rw [if_pos (by omega), if_pos (by omega)]
      exact ⟨rfl, rfl⟩
    · obtain rfl : r = 100000 := by omega
      have z1 : rt 0 = 0 := rt_sq 0 (by omega)
      have z2 : ce 0 = 0 := ce_sq 0 (by omega)
      unfold hcL hcH
      rw [if_neg (by omega), if_neg (by omega), show (100000 : Int) * 100000 - 100000 * 100000 = 0 by decide, z1, z2]
      exact ⟨rfl, rfl⟩

end Go.Proofs.YtmdpdpbkbakidaaGreat

/- Package segment: heights are checked. -/
namespace Go.Proofs.YtmdpdpbkbakidaaGreat
open Go.RowKit

theorem nan_any (a : Int) (w : World) : Calls Tryz.prog 105 #[.int .i64 a] w fun e w' => e = .returned (.bool false) ∧ w = w' := by
  have h : (a != a) = false := by simp
  go_enter Tryz.func105, Tryz.ntmps105
  go_wp2
  go_returns
  exact ⟨rfl, rfl⟩
theorem less_any (a b : Int) (w : World) : Calls Tryz.prog 89 #[.int .i64 a, .int .i64 b] w fun e w' => e = .returned (.bool (decide (a < b))) ∧ w = w' := by
  have H := Lib.hid (fun W => nan_any a W)
  go_enter Tryz.func89, Tryz.ntmps89
  go_wp2_with fail
  refine (H.out _).mono ?_
  rintro e w1 ⟨rfl, hw⟩
  subst hw
  go_wp2
  go_returns
  exact ⟨rfl, rfl⟩

theorem less_same (a b : Int) (w : World) : Calls Tryz.prog 89 #[.int .i64 a, .int .i64 b] w fun e w' => e = .returned (.bool (decide (a < b))) ∧ w' = w :=
  (less_any a b w).mono fun _ _ h => ⟨h.1, h.2.symm⟩

end Go.Proofs.YtmdpdpbkbakidaaGreat

/- Package standing: Check. -/
namespace Go.Proofs.YtmdpdpbkbakidaaGreat
open Go.RowKit Go.Shelf

theorem stbx_below {W W' : World} {b : Nat} {t : TypeId} {v : Value} (h : Boxed W b t v) (hb : Below W.heap.size W W') : Boxed W' b t v := by
  show W'.heap[b]? = _
  rw [hb.block _ h.lt]
  exact h
/-- a level that is out of range -/
theorem stOut_any (y X : Int) (q : Nat) (w : World) (h : w.cell? ⟨q, 0, none⟩ = some (.int .i64 X)) :
    Calls Tryz.prog 34 #[.int .i64 y, .pointer (some ⟨q, 0, none⟩)] w fun e w' => e = .returned (.bool (lvOut X y)) ∧ Below w.heap.size w w' := by
  unfold lvOut
  by_cases h0 : y < 0
  · have d1 : decide (y < 0) = true := decide_eq_true h0
    rw [d1, Bool.true_or]
    clear h0
    go_enter Tryz.func34, Tryz.ntmps34
    go_wp2
    go_returns
    exact ⟨rfl, Below.refl _ _⟩
  · have d1 : decide (y < 0) = false := decide_eq_false h0
    rw [d1, Bool.false_or]
    clear h0
    generalize hB : decide (X < y) = B
    go_enter Tryz.func34, Tryz.ntmps34
    go_wp2
    go_returns
    exact ⟨rfl, Below.refl _ _⟩
theorem st_contains (ps : List Int) (v : Int) : (ps.take ps.length).contains v = ps.any (fun y => y == v) := by
  rw [List.take_length]
  exact (List.any_beq' ..).symm
set_option maxHeartbeats 8000000 in
set_option maxRecDepth 100000 in
theorem stMis_any (x r : Int) (q b off n cap : Nat) (ls : List Int) (w : World) (n0 : 2 ≤ n) (n1 : n ≤ 1000) (hn : Hid (n = ls.length)) (h : w.cell? ⟨q, 0, none⟩ = some (.slice (some ⟨b, off, none⟩) n cap)) (hq : q < w.heap.size) (hb : b < w.heap.size)
    (hc : Hid (∀ j, j < n → w.cell? ⟨b, off + j, none⟩ = some (.int .i64 (ls.getD j 0)))) :
    Calls Tryz.prog 35 #[.agg #[.int .i64 x, .int .i64 r], .pointer (some ⟨q, 0, none⟩)] w fun e w' => e = .returned (.bool (lvMis ls x)) ∧ Below w.heap.size w w' := by
  have c0 : (w.alloc (.cells #[.int .i64 x, .int .i64 r] 43)).cell? ⟨q, 0, none⟩ = some (.slice (some ⟨b, off, none⟩) n cap) := by rw [World.cell?_alloc_lt w _ _ hq]; exact h
  have c1 : (w.alloc (.cells #[.int .i64 x, .int .i64 r] 43)).cell? ⟨b, off, none⟩ = some (.int .i64 (ls.getD 0 0)) := by rw [World.cell?_alloc_lt w _ _ hb]; exact hc.out 0 (by omega)
  have c2 : (w.alloc (.cells #[.int .i64 x, .int .i64 r] 43)).cell? ⟨b, off + (n - 1), none⟩ = some (.int .i64 (ls.getD (n - 1) 0)) := by rw [World.cell?_alloc_lt w _ _ hb]; exact hc.out (n - 1) (by omega)
  have HC : Hid (∀ m, Calls Tryz.prog 36 #[.slice (some ⟨b, off, none⟩) n cap, .int .i64 x] ((w.alloc (.cells #[.int .i64 x, .int .i64 r] 43)).drewN m) fun e w' => e = .returned (.bool (ls.any (fun y => y == x))) ∧ w' = (w.alloc (.cells #[.int .i64 x, .int .i64 r] 43)).drewN m) := Lib.hid fun m => by
    have := Tryz.slices_Contains_int b off n cap ls x ((w.alloc (.cells #[.int .i64 x, .int .i64 r] 43)).drewN m) (by have := hn.out; omega) (by omega) (fun j hj => by
      show (w.alloc (.cells #[.int .i64 x, .int .i64 r] 43)).cell? _ = _
      rw [World.cell?_alloc_lt w _ _ hb]; exact hc.out j (by have := hn.out; omega))
    rwa [show ls.take n = ls.take ls.length by rw [← hn.out], st_contains] at this
  have HV : Hid (lvMis ls x = (decide (ls.getD 0 0 < x) && (decide (x < ls.getD (n - 1) 0) && !ls.any (fun y => y == x)))) := Lib.hid (by unfold lvMis; rw [← hn.out])
  have T0 := Lib.hid (Two.new w (.int .i64 x) (.int .i64 r) 43)
  obtain ⟨t0, _, _, _, _⟩ := T0.out
  have wk : IntKind.i64.wrap ((n : Int) - 1) = ((n - 1 : Nat) : Int) := by rw [wrap_in _ ⟨by omega, by omega⟩]; omega
  have wk2 : 0 ≤ ((n - 1 : Nat) : Int) := by omega
  have wk3 : ((n - 1 : Nat) : Int) < (n : Int) := by omega
  rw [HV.out]
  clear HV hc hn h
  generalize ls.any (fun y => y == x) = B at *
  generalize ls.getD 0 0 = p at *
  generalize ls.getD (n - 1) 0 = z at *
  generalize n - 1 = k at *
  have X1 : Hid (∀ m, Below w.heap.size w ((w.alloc (.cells #[.int .i64 x, .int .i64 r] 43)).drewN m)) := Lib.hid fun m => ⟨rfl, rfl, rfl, by simp, fun i hi => by show (w.alloc _).heap[i]? = _; exact Below.heap_alloc _ _ _ hi⟩
  by_cases h1 : p < x
  · have d1 : decide (p < x) = true := decide_eq_true h1
    by_cases h2 : x < z
    · have d2 : decide (x < z) = true := decide_eq_true h2
      rw [d1, d2, Bool.true_and, Bool.true_and]
      clear h1 h2
      go_enter Tryz.func35, Tryz.ntmps35
      go_wp2_with fail
      go_quiet ((go_at_call 36; exact Calls.quiet_of_same (HC.out _)))
      go_wp2
      go_returns
      exact ⟨rfl, X1.out _⟩
    · have d2 : decide (x < z) = false := decide_eq_false h2
      rw [d1, d2, Bool.true_and, Bool.false_and]
      clear h1 h2
      go_enter Tryz.func35, Tryz.ntmps35
      go_wp2_with fail
      go_quiet ((go_at_call 36; exact Calls.quiet_of_same (HC.out _)))
      go_wp2
      go_returns
      exact ⟨rfl, X1.out _⟩
  · have d1 : decide (p < x) = false := decide_eq_false h1
    rw [d1, Bool.false_and]
    clear h1
    go_enter Tryz.func35, Tryz.ntmps35
    go_wp2_with fail
    go_quiet ((go_at_call 36; exact Calls.quiet_of_same (HC.out _)))
    go_wp2
    go_returns
    exact ⟨rfl, X1.out _⟩
theorem stChk_bad (nm : ByteArray) (cps dc E : Int) (a : Option Addr) (m cap : Nat) (a2 : Option Addr) (n cap2 : Nat) (w : World) (e1 : (E == 0) = false) (e2 : (E != 0) = true)
    (H1 : Hid (∀ W, Below w.heap.size w W → Calls Tryz.prog 27 #[.agg #[.string nm, .int .i64 cps, .slice a m cap, .int .i64 dc]] W fun e w' => e = .returned (.int .i64 E) ∧ Below W.heap.size W w')) :
    Calls Tryz.prog 19 #[.agg #[.string nm, .int .i64 cps, .slice a m cap, .int .i64 dc], .slice a2 n cap2] w fun e w' => e = .returned (.int .i64 E) ∧ Below w.heap.size w w' := by
  go_enter Tryz.func19, Tryz.ntmps19
  go_wp2_with fail
  refine (H1.out _ (bel_alloc (bel_alloc (Below.refl _ _)))).mono ?_
  rintro e w1 ⟨rfl, gg⟩
  have X1 := Lib.hid (bel_alloc (bel_alloc gg)); clear gg
  go_wp2
  go_returns
  exact ⟨rfl, X1.out⟩
/-- the boxes of Check -/
theorem stChk_box (w : World) (nm : ByteArray) (cps dc : Int) (a : Option Addr) (m cap : Nat) (u : Value) :
    Quad w.heap.size ((w.alloc (.cells #[.string nm, .int .i64 cps, .slice a m cap, .int .i64 dc] 24)).alloc (.cells #[u] 25)) (.string nm) (.int .i64 cps) (.slice a m cap) (.int .i64 dc) ∧
    Boxed ((w.alloc (.cells #[.string nm, .int .i64 cps, .slice a m cap, .int .i64 dc] 24)).alloc (.cells #[u] 25)) (w.heap.size + 1) 25 u := by
  refine ⟨(Quad.new w _ _ _ _ _).alloc _, ?_⟩
  have := Boxed.new (w.alloc (.cells #[.string nm, .int .i64 cps, .slice a m cap, .int .i64 dc] 24)) 25 u
  rwa [World.size_alloc] at this
set_option maxHeartbeats 8000000 in
theorem stChk_len (nm : ByteArray) (cps dc X : Int) (a : Option Addr) (m cap : Nat) (a2 : Option Addr) (n cap2 : Nat) (V : Int) (w : World) (h : (n < 2 ∧ V = 9) ∨ (¬ n < 2 ∧ 128 < n ∧ n ≤ 9223372036854775807 ∧ V = 8))
    (H1 : Hid (∀ W, Below w.heap.size w W → Calls Tryz.prog 27 #[.agg #[.string nm, .int .i64 cps, .slice a m cap, .int .i64 dc]] W fun e w' => e = .returned (.int .i64 0) ∧ Below W.heap.size W w'))
    (H2 : Hid (∀ W, Below w.heap.size w W → Calls Tryz.prog 30 #[.slice a m cap] W fun e w' => e = .returned (.tuple #[.int .i64 X, .int .i64 0]) ∧ Below W.heap.size W w')) :
    Calls Tryz.prog 19 #[.agg #[.string nm, .int .i64 cps, .slice a m cap, .int .i64 dc], .slice a2 n cap2] w fun e w' => e = .returned (.int .i64 V) ∧ Below w.heap.size w w' := by
  have hmf : ∀ (fn : Fn) (first cap : Array Value) (w : World), (Instr.makeFunc fn first cap).run Tryz.prog w = .ok (.func fn first cap) w := fun _ _ _ _ => rfl
  obtain ⟨f0, b0⟩ := stChk_box w nm cps dc a m cap (.slice a2 n cap2)
  have F0 := Lib.hid f0
  have B0 := Lib.hid b0
  clear f0 b0
  rcases h with ⟨h, rfl⟩ | ⟨h, h2, h3, rfl⟩
  all_goals
    go_enter Tryz.func19, Tryz.ntmps19
    go_wp2_with fail
    refine (H1.out _ (bel_alloc (bel_alloc (Below.refl _ _)))).mono ?_
    rintro e w1 ⟨rfl, gg⟩
    replace F0 := Lib.hid (F0.out.below gg)
    replace B0 := Lib.hid (stbx_below B0.out gg)
    have X1 := Lib.hid (bel_alloc (bel_alloc gg)); clear gg
    obtain ⟨_, _, u2, _, _, _⟩ := F0.out
    go_wp2_with fail
    refine (H2.out _ X1.out).mono ?_
    rintro e w2 ⟨rfl, gg⟩
    clear u2
    replace B0 := Lib.hid (stbx_below B0.out gg)
    have B1 := Lib.hid (B0.out.alloc (.cells #[.int .i64 X] 3))
    replace X1 := Lib.hid (bel_trans X1.out gg); clear gg
    have c1 := B1.out.cell
    have X2 := Lib.hid (bel_trans X1.out (bel_alloc (o := .cells #[.int .i64 X] 3) (Below.refl _ _)))
    go_wp2
    go_returns
    exact ⟨rfl, X2.out⟩
set_option maxHeartbeats 8000000 in
theorem stChk_core (nm : ByteArray) (cps dc X : Int) (a : Option Addr) (m cap b off n cap2 : Nat) (O A M : Bool) (V : Int) (w : World) (n0 : 2 ≤ n) (n1 : n ≤ 128) (hV : (O = true ∧ V = 2) ∨ (O = false ∧ A = false ∧ V = 5) ∨ (O = false ∧ A = true ∧ M = true ∧ V = 7) ∨ (O = false ∧ A = true ∧ M = false ∧ V = 0))
    (H1 : Hid (∀ W, Below w.heap.size w W → Calls Tryz.prog 27 #[.agg #[.string nm, .int .i64 cps, .slice a m cap, .int .i64 dc]] W fun e w' => e = .returned (.int .i64 0) ∧ Below W.heap.size W w'))
    (H2 : Hid (∀ W, Below w.heap.size w W → Calls Tryz.prog 30 #[.slice a m cap] W fun e w' => e = .returned (.tuple #[.int .i64 X, .int .i64 0]) ∧ Below W.heap.size W w'))
    (H3 : Hid (∀ W q, Below w.heap.size w W → Boxed W q 3 (.int .i64 X) → Calls Tryz.prog 37 #[.slice (some ⟨b, off, none⟩) n cap2, .func (.func 34) #[] #[.pointer (some ⟨q, 0, none⟩)]] W fun e w' => e = .returned (.bool O) ∧ Below W.heap.size W w'))
    (H4 : Hid (∀ W, Below w.heap.size w W → Calls Tryz.prog 38 #[.slice (some ⟨b, off, none⟩) n cap2] W fun e w' => e = .returned (.bool A) ∧ w' = W))
    (H5 : Hid (∀ W, Below w.heap.size w W → Boxed W (w.heap.size + 1) 25 (.slice (some ⟨b, off, none⟩) n cap2) → Calls Tryz.prog 39 #[.slice a m cap, .func (.func 35) #[] #[.pointer (some ⟨w.heap.size + 1, 0, none⟩)]] W fun e w' => e = .returned (.bool M) ∧ Below W.heap.size W w')) :
    Calls Tryz.prog 19 #[.agg #[.string nm, .int .i64 cps, .slice a m cap, .int .i64 dc], .slice (some ⟨b, off, none⟩) n cap2] w fun e w' => e = .returned (.int .i64 V) ∧ Below w.heap.size w w' := by
  have hmf : ∀ (fn : Fn) (first cap : Array Value) (w : World), (Instr.makeFunc fn first cap).run Tryz.prog w = .ok (.func fn first cap) w := fun _ _ _ _ => rfl
  obtain ⟨f0, b0⟩ := stChk_box w nm cps dc a m cap (.slice (some ⟨b, off, none⟩) n cap2)
  have F0 := Lib.hid f0
  have B0 := Lib.hid b0
  clear f0 b0
  go_enter Tryz.func19, Tryz.ntmps19
  go_wp2_with fail
  refine (H1.out _ (bel_alloc (bel_alloc (Below.refl _ _)))).mono ?_
  rintro e w1 ⟨rfl, gg⟩
  replace F0 := Lib.hid (F0.out.below gg)
  replace B0 := Lib.hid (stbx_below B0.out gg)
  have X1 := Lib.hid (bel_alloc (bel_alloc gg)); clear gg
  obtain ⟨_, _, u2, _, _, _⟩ := F0.out
  go_wp2_with fail
  refine (H2.out _ X1.out).mono ?_
  rintro e w2 ⟨rfl, gg⟩
  clear u2
  replace F0 := Lib.hid ((F0.out.below gg).alloc (.cells #[.int .i64 X] 3))
  replace B0 := Lib.hid ((stbx_below B0.out gg).alloc (.cells #[.int .i64 X] 3))
  have BX := Lib.hid (Boxed.new w2 3 (.int .i64 X))
  replace X1 := Lib.hid (bel_trans X1.out gg); clear gg
  have X2 := Lib.hid (bel_trans X1.out (bel_alloc (o := .cells #[.int .i64 X] 3) (Below.refl _ _)))
  have c1 := B0.out.cell
  go_wp2_with fail
  refine (H3.out _ _ X2.out BX.out).mono ?_
  rintro e w3 ⟨rfl, gg⟩
  clear c1
  replace F0 := Lib.hid (F0.out.below gg)
  replace B0 := Lib.hid (stbx_below B0.out gg)
  replace X2 := Lib.hid (bel_trans X2.out gg); clear gg BX
  rcases hV with ⟨rfl, rfl⟩ | hV
  · go_wp2
    go_returns
    exact ⟨rfl, X2.out⟩
  have c1 := B0.out.cell
  obtain ⟨_, _, u2, _, _, _⟩ := F0.out
  rcases hV with ⟨rfl, rfl, rfl⟩ | ⟨rfl, rfl, rfl, rfl⟩ | ⟨rfl, rfl, rfl, rfl⟩
  · go_wp2_with fail
    refine (H4.out _ X2.out).mono ?_
    rintro e w4 ⟨rfl, hw⟩
    subst hw
    go_wp2
    go_returns
    exact ⟨rfl, X2.out⟩
  · go_wp2_with fail
    refine (H4.out _ X2.out).mono ?_
    rintro e w4 ⟨rfl, hw⟩
    subst hw
    go_wp2_with fail
    refine (H5.out _ X2.out B0.out).mono ?_
    rintro e w4 ⟨rfl, gg⟩
    replace X2 := Lib.hid (bel_trans X2.out gg); clear gg
    go_wp2
    go_returns
    exact ⟨rfl, X2.out⟩
  · go_wp2_with fail
    refine (H4.out _ X2.out).mono ?_
    rintro e w4 ⟨rfl, hw⟩
    subst hw
    go_wp2_with fail
    refine (H5.out _ X2.out B0.out).mono ?_
    rintro e w4 ⟨rfl, gg⟩
    replace X2 := Lib.hid (bel_trans X2.out gg); clear gg
    go_wp2
    go_returns
    exact ⟨rfl, X2.out⟩
theorem stChk_any (v u : Value) (c : Ck) (ls : List Int) (w : World) (hv : CkV w v c) (hu : Nums w u ls) :
    Calls Tryz.prog 19 #[v, u] w fun e w' => e = .returned (.int .i64 (stE c ls)) ∧ Below w.heap.size w w' := by
  have H1 : Hid (∀ W, Below w.heap.size w W → _) := Lib.hid fun W hW => stPos_any v c W (hv.below hW)
  have hv' := hv
  obtain ⟨a, cap, rfl, hp, _⟩ := hv'
  unfold stE
  by_cases h : stSE c = 0
  · rw [if_pos h]
    rw [h] at H1
    obtain ⟨h1, h2⟩ := stSE_zero.1 h
    obtain ⟨_, _, _, hR⟩ := ccE_pf h1
    have e0 := (ckE_iff _).2 hR
    have m0 := hR.n0
    have m1 := hR.n1
    have H2 : Hid (∀ W, Below w.heap.size w W → _) := Lib.hid fun W hW => len_any _ c.pf W (hp.below hW)
    unfold lgQ at H2
    rw [if_pos e0, e0] at H2
    have hu' := hu
    obtain ⟨a2, cap2, rfl, hcap, hh⟩ := hu'
    unfold svE
    by_cases g1 : ls.length < 2
    · rw [if_pos g1]
      exact stChk_len _ _ _ _ a _ cap a2 _ cap2 _ w (.inl ⟨g1, rfl⟩) H1 H2
    · rw [if_neg g1]
      by_cases g2 : 128 < ls.length
      · rw [if_pos g2]
        exact stChk_len _ _ _ _ a _ cap a2 _ cap2 _ w (.inr ⟨g1, g2, by omega, rfl⟩) H1 H2
      · rw [if_neg g2]
        rcases hh with h0 | ⟨b, off, rfl, hb, hc⟩
        · omega
        · obtain ⟨bp, op, rfl, hbp, hpc⟩ := hp.at (by omega)
          obtain ⟨q, hq⟩ : ∃ q, ls.length = q + 1 := ⟨ls.length - 1, by omega⟩
          have HO : Hid (∀ W qx, Below w.heap.size w W → Boxed W qx 3 (.int .i64 (gX c.pf (c.pf.length - 1))) → Calls Tryz.prog 37 #[.slice (some ⟨b, off, none⟩) (q + 1) cap2, .func (.func 34) #[] #[.pointer (some ⟨qx, 0, none⟩)]] W fun e w' => e = .returned (.bool (ls.any (lvOut (gX c.pf (c.pf.length - 1))))) ∧ Below W.heap.size W w') := Lib.hid fun W qx hW hB => by
            refine coni_some 34 qx (fun j => lvOut (gX c.pf (c.pf.length - 1)) (ls.getD j 0)) (enters_of Tryz.func34 (by kernel_rfl) rfl) b off (q + 1) cap2 ls _ W (by omega) (Nat.lt_of_lt_of_le hb hW.size) (Lib.hid fun j hj => by rw [(bcell hW).1 _ _ hb]; exact hc j (by omega)) (Lib.hid fun j W2 hj hW2 => stOut_any _ _ qx W2 (stbx_below hB hW2).cell) (Lib.hid ?_) (Lib.hid ?_)
            · rintro ⟨j, hj, hx⟩
              exact (anyI_iff _ _).2 ⟨j, by omega, hx⟩
            · intro hall
              rw [Bool.eq_false_iff]
              intro hx
              obtain ⟨j, hj, e⟩ := (anyI_iff _ _).1 hx
              rw [hall j (by omega)] at e
              cases e
          have HA : Hid (∀ W, Below w.heap.size w W → Calls Tryz.prog 38 #[.slice (some ⟨b, off, none⟩) (q + 1) cap2] W fun e w' => e = .returned (.bool (stAsc ls)) ∧ w' = W) := Lib.hid fun W hW => by
            refine stInc_some b off q cap2 ls _ W (by omega) (by omega) (Lib.hid fun j hj => by rw [(bcell hW).1 _ _ hb]; exact hc j (by omega)) (Lib.hid ?_) (Lib.hid ?_)
            · rintro ⟨i, hi, hx⟩
              rw [Bool.eq_false_iff]
              intro ha
              have := (stAsc_iff ls).1 ha i (by omega)
              omega
            · intro ha
              exact (stAsc_iff ls).2 (fun i hi => ha i (by omega))
          have HM : Hid (∀ W, Below w.heap.size w W → Boxed W (w.heap.size + 1) 25 (.slice (some ⟨b, off, none⟩) (q + 1) cap2) → Calls Tryz.prog 39 #[.slice (some ⟨bp, op, none⟩) c.pf.length cap, .func (.func 35) #[] #[.pointer (some ⟨w.heap.size + 1, 0, none⟩)]] W fun e w' => e = .returned (.bool (misB c.pf ls)) ∧ Below W.heap.size W w') := Lib.hid fun W hW hB => by
            refine conq_some 35 (w.heap.size + 1) (fun j => lvMis ls (gX c.pf j)) (enters_of Tryz.func35 (by kernel_rfl) rfl) bp op _ cap c.pf _ W (by omega) (Nat.lt_of_lt_of_le hbp hW.size) (Lib.hid fun j hj => ⟨by rw [(bcell hW).1 _ _ hbp]; exact (hpc j hj).1, by rw [(bcell hW).1 _ _ hbp]; exact (hpc j hj).2⟩) (Lib.hid fun j W2 hj hW2 => ?_) (Lib.hid ?_) (Lib.hid ?_)
            · have hb2 := stbx_below hB hW2
              exact stMis_any _ _ _ b off (q + 1) cap2 ls W2 (by omega) (by omega) (Lib.hid hq.symm) hb2.cell hb2.lt (Nat.lt_of_lt_of_le (Nat.lt_of_lt_of_le hb hW.size) hW2.size) (Lib.hid fun j hj => by rw [(bcell hW2).1 _ _ (Nat.lt_of_lt_of_le hb hW.size), (bcell hW).1 _ _ hb]; exact hc j (by omega))
            · rintro ⟨j, hj, hx⟩
              exact (misB_iff _ _).2 ⟨j, hj, hx⟩
            · intro hall
              rw [Bool.eq_false_iff]
              intro hx
              obtain ⟨j, hj, e⟩ := (misB_iff _ _).1 hx
              rw [hall j hj] at e
              cases e
          rw [hq]
          refine stChk_core _ _ _ _ _ _ cap b off (q + 1) cap2 _ _ _ _ w (by omega) (by omega) ?_ H1 H2 HO HA HM
          cases ls.any (lvOut (gX c.pf (c.pf.length - 1))) with
          | true => left; simp
          | false =>
            right
            cases stAsc ls with
            | false => left; simp
            | true =>
              right
              cases misB c.pf ls with
              | true => left; simp
              | false => right; simp
  · rw [if_neg h]
    obtain ⟨a2, cap2, rfl, _⟩ := hu
    exact stChk_bad _ _ _ _ a _ cap a2 _ cap2 w (by simpa using h) (by simpa using h) H1
end Go.Proofs.YtmdpdpbkbakidaaGreat

/- Package profile: place. -/
namespace Go.Proofs.YtmdpdpbkbakidaaGreat
open Go.RowKit
theorem place_bad (v : Value) (x E : Int) (w : World) (e1 : (E == 0) = false) (e2 : (E != 0) = true)
    (H1 : Hid (Calls Tryz.prog 51 #[v] w fun e w' => e = .returned (.int .i64 E) ∧ Below w.heap.size w w')) :
    Calls Tryz.prog 59 #[v, .int .i64 x] w fun e w' => e = .returned (.int .i64 1) ∧ Below w.heap.size w w' := by
  go_enter Tryz.func59, Tryz.ntmps59
  go_wp2_with fail
  refine H1.out.mono ?_
  rintro e w1 ⟨rfl, gg⟩
  have X1 := Lib.hid gg; clear gg
  go_wp2
  go_returns
  exact ⟨rfl, X1.out⟩
theorem place_ok (v : Value) (x X : Int) (w : World)
    (H1 : Hid (Calls Tryz.prog 51 #[v] w fun e w' => e = .returned (.int .i64 0) ∧ Below w.heap.size w w'))
    (H2 : Hid (∀ W, Below w.heap.size w W → Calls Tryz.prog 52 #[v] W fun e w' => e = .returned (.int .i64 X) ∧ w' = W)) :
    Calls Tryz.prog 59 #[v, .int .i64 x] w fun e w' => e = .returned (.int .i64 (if x < 0 ∨ X < x then 2 else 0)) ∧ Below w.heap.size w w' := by
  by_cases h0 : x < 0
  · rw [if_pos (.inl h0)]
    go_enter Tryz.func59, Tryz.ntmps59
    go_wp2_with fail
    refine H1.out.mono ?_
    rintro e w1 ⟨rfl, gg⟩
    have X1 := Lib.hid gg; clear gg
    go_wp2
    go_returns
    exact ⟨rfl, X1.out⟩
  · by_cases h1 : X < x
    · rw [if_pos (.inr h1)]
      go_enter Tryz.func59, Tryz.ntmps59
      go_wp2_with fail
      refine H1.out.mono ?_
      rintro e w1 ⟨rfl, gg⟩
      have X1 := Lib.hid gg; clear gg
      go_wp2_with fail
      refine (H2.out _ X1.out).mono ?_
      rintro e w2 ⟨rfl, hw⟩
      subst hw
      go_wp2
      go_returns
      exact ⟨rfl, X1.out⟩
    · rw [if_neg (by omega)]
      go_enter Tryz.func59, Tryz.ntmps59
      go_wp2_with fail
      refine H1.out.mono ?_
      rintro e w1 ⟨rfl, gg⟩
      have X1 := Lib.hid gg; clear gg
      go_wp2_with fail
      refine (H2.out _ X1.out).mono ?_
      rintro e w2 ⟨rfl, hw⟩
      subst hw
      go_wp2
      go_returns
      exact ⟨rfl, X1.out⟩
theorem place_any (v : Value) (l : List (Int × Int)) (x : Int) (w : World) (hv : Pts w v l) :
    Calls Tryz.prog 59 #[v, .int .i64 x] w fun e w' => e = .returned (.int .i64 (plE l x)) ∧ Below w.heap.size w w' := by
  have HC := Lib.hid (ck_any v l w hv)
  unfold plE
  by_cases h : ckE l = 0
  · rw [if_pos h]
    rw [h] at HC
    exact place_ok v x _ w HC (Lib.hid fun W hW => end_of (hv.below hW) h)
  · rw [if_neg h]
    exact place_bad v x _ w (by simpa using h) (by simpa using h) HC
end Go.Proofs.YtmdpdpbkbakidaaGreat

/- Package profile: the piece that reaches to x. -/
namespace Go.Proofs.YtmdpdpbkbakidaaGreat
open Go.RowKit Go.Shelf
attribute [local go_sem] Oper.semAt_some

/-- a block with four cells that can be written -/
def FourF (b : Nat) (W : World) (x p y q : Value) : Prop := Four b W x p y q ∧ W.frozen? ⟨b, 0, none⟩ = false ∧ W.frozen? ⟨b, 1, none⟩ = false ∧ W.frozen? ⟨b, 2, none⟩ = false ∧ W.frozen? ⟨b, 3, none⟩ = false
theorem FourF.new (W : World) (x p y q : Value) (T : TypeId) : FourF W.heap.size (W.alloc (.cells #[x, p, y, q] T)) x p y q := ⟨Four.new W x p y q T, by simp [go_sem], by simp [go_sem], by simp [go_sem], by simp [go_sem]⟩
theorem fourF_kept {b : Nat} {A B : World} {x p y q : Value} {row : Option Nat} (h : FourF b A x p y q) (hg : A.grownBy B row) (hr : ∀ r, row = some r → ∃ o : Obj, A.heap[r]? = some o ∧ o.isCells = false) : FourF b B x p y q := by
  obtain ⟨h0, h1, h2, h3, h4⟩ := h
  have k := h0
  obtain ⟨k0, k1, k2, k3⟩ := k
  exact ⟨four_kept h0 hg hr, (frozen_kept k0 hg hr).trans h1, (frozen_kept k1 hg hr).trans h2, (frozen_kept k2 hg hr).trans h3, (frozen_kept k3 hg hr).trans h4⟩
theorem FourF.alloc {b : Nat} {W : World} {x p y q : Value} (h : FourF b W x p y q) (o : Obj) : FourF b (W.alloc o) x p y q := fourF_kept h (World.grownBy_alloc W o none) (fun r e => by cases e)
theorem Four.below {b : Nat} {W W' : World} {x p y q : Value} (h : Four b W x p y q) (hb : Below W.heap.size W W') : Four b W' x p y q := by
  obtain ⟨h0, h1, h2, h3⟩ := h
  have hl := World.block_lt_of_cell? W _ h0
  exact ⟨((bcell hb).1 _ _ hl).trans h0, ((bcell hb).1 _ _ hl).trans h1, ((bcell hb).1 _ _ hl).trans h2, ((bcell hb).1 _ _ hl).trans h3⟩
theorem Four.alloc {b : Nat} {W : World} {x p y q : Value} (h : Four b W x p y q) (o : Obj) : Four b (W.alloc o) x p y q := h.below (bel_alloc (Below.refl _ _))
theorem FourF.below {b : Nat} {W W' : World} {x p y q : Value} (h : FourF b W x p y q) (hb : Below W.heap.size W W') : FourF b W' x p y q := by
  obtain ⟨h0, h1, h2, h3, h4⟩ := h
  have hl := World.block_lt_of_cell? W _ h0.1
  exact ⟨h0.below hb, ((bcell hb).2 _ _ hl).trans h1, ((bcell hb).2 _ _ hl).trans h2, ((bcell hb).2 _ _ hl).trans h3, ((bcell hb).2 _ _ hl).trans h4⟩
/-- four stores -/
def set4 (W : World) (b : Nat) (x p y q : Value) : World := (((W.setCell ⟨b, 0, none⟩ x).setCell ⟨b, 1, none⟩ p).setCell ⟨b, 2, none⟩ y).setCell ⟨b, 3, none⟩ q
theorem four_set {b : Nat} {W : World} {x p y q : Value} (h : Four b W x p y q) (u v w z : Value) : Four b (set4 W b u v w z) u v w z := by
  obtain ⟨h0, h1, h2, h3⟩ := h
  refine ⟨?_, ?_, ?_, ?_⟩
  · unfold set4
    rw [World.cell?_setCell_other _ _ _ _ (by simp), World.cell?_setCell_other _ _ _ _ (by simp), World.cell?_setCell_other _ _ _ _ (by simp), World.cell?_setCell_same _ _ _ h0]
  · unfold set4
    rw [World.cell?_setCell_other _ _ _ _ (by simp), World.cell?_setCell_other _ _ _ _ (by simp), World.cell?_setCell_same (u := p)]
    rw [World.cell?_setCell_other _ _ _ _ (by simp)]; exact h1
  · unfold set4
    rw [World.cell?_setCell_other _ _ _ _ (by simp), World.cell?_setCell_same (u := y)]
    rw [World.cell?_setCell_other _ _ _ _ (by simp), World.cell?_setCell_other _ _ _ _ (by simp)]; exact h2
  · unfold set4
    rw [World.cell?_setCell_same (u := q)]
    rw [World.cell?_setCell_other _ _ _ _ (by simp), World.cell?_setCell_other _ _ _ _ (by simp), World.cell?_setCell_other _ _ _ _ (by simp)]; exact h3
theorem keeps_set4 (W : World) (b : Nat) (x p y q : Value) : KeepsOthers W (set4 W b x p y q) :=
  (((KeepsOthers.setCell W ⟨b, 0, none⟩ x).trans (KeepsOthers.setCell _ ⟨b, 1, none⟩ p)).trans (KeepsOthers.setCell _ ⟨b, 2, none⟩ y)).trans (KeepsOthers.setCell _ ⟨b, 3, none⟩ q)
theorem bel_set4 {n₀ : Nat} {w W : World} (h : Below n₀ w W) (b : Nat) (hb : n₀ ≤ b) (x p y q : Value) : Below n₀ w (set4 W b x p y q) :=
  (((h.setCell (p := ⟨b, 0, none⟩) hb x).setCell (p := ⟨b, 1, none⟩) hb p).setCell (p := ⟨b, 2, none⟩) hb y).setCell (p := ⟨b, 3, none⟩) hb q
theorem four_apart {b g i : Nat} {W : World} {x p y q : Value} (h : Four b W x p y q) (u : Value) (hn : b ≠ g) : Four b (W.setCell ⟨g, i, none⟩ u) x p y q := by
  obtain ⟨h0, h1, h2, h3⟩ := h
  exact ⟨cell_apart _ h0 hn, cell_apart _ h1 hn, cell_apart _ h2 hn, cell_apart _ h3 hn⟩
theorem box_apart {b g i : Nat} {W : World} {t : TypeId} {v : Value} (h : Boxed W b t v) (hn : b ≠ g) (u : Value) : Boxed (W.setCell ⟨g, i, none⟩ u) b t v := by
  show (W.heap.modify g _)[b]? = _
  rw [Array.getElem?_modify, if_neg (fun e => hn e.symm)]
  exact h
theorem box_set4 {b g : Nat} {W : World} {t : TypeId} {v : Value} (h : Boxed W b t v) (hn : b ≠ g) (x p y q : Value) : Boxed (set4 W g x p y q) b t v :=
  box_apart (box_apart (box_apart (box_apart h hn x) hn p) hn y) hn q
theorem froz_set4 {b i g : Nat} {W : World} (h : W.frozen? ⟨b, i, none⟩ = false) (x p y q : Value) : (set4 W g x p y q).frozen? ⟨b, i, none⟩ = false := by
  unfold set4; simp only [World.frozen?_setCell]; exact h

set_option maxRecDepth 100000 in
set_option maxHeartbeats 8000000 in
theorem find_some (b off n cap : Nat) (l : List (Int × Int)) (x : Int) (i : Nat) (w : World) (n0 : 2 ≤ n) (n1 : n ≤ 1000) (hn : n = l.length) (hb : b < w.heap.size)
    (hc : Hid (∀ j, j < n → w.cell? ⟨b, off + j * 2, none⟩ = some (.int .i64 (gX l j)) ∧ w.cell? ⟨b, off + j * 2 + 1, none⟩ = some (.int .i64 (gR l j))))
    (hi : Hid (IsPc l x i)) :
    Calls Tryz.prog 60 #[.slice (some ⟨b, off, none⟩) n cap, .int .i64 x] w fun e w' => e = .returned (.tuple #[.agg #[.int .i64 (gX l (i - 1)), .int .i64 (gR l (i - 1)), .int .i64 (gX l i), .int .i64 (gR l i)], .int .i64 i]) ∧ Below w.heap.size w w' := by
  have HN := Lib.hid hn
  clear hn
  refine (callsIn_wide (n := 10)).1 ?_
  refine callsIn_of_wp_marks Tryz.func60 rfl trivial ?_ rfl
  simp only [Tryz.ntmps60, List.size_toArray, List.length_cons, List.length_nil, Nat.reduceAdd, Nat.reduceSub, Array.replicate_succ, Array.replicate_zero, List.push_toArray, List.append_toArray, List.nil_append, List.cons_append]
  gi_wp2_with fail
  refine ⟨trivial, (callsIn_wide.2 (pieces_any _ _ _ _)).mono ?_⟩
  rintro e w3 ⟨rfl, rfl⟩
  gi_wp2_with fail
  have BA : Hid (Boxed (w.alloc (.cells #[.int .i64 x] 3)) w.heap.size 3 (.int .i64 x)) := Boxed.new w 3 (.int .i64 x)
  have BP : Hid (FourF (w.heap.size + 1) ((w.alloc (.cells #[.int .i64 x] 3)).alloc (.cells #[.int .i64 0, .int .i64 0, .int .i64 0, .int .i64 0] 81)) (.int .i64 0) (.int .i64 0) (.int .i64 0) (.int .i64 0)) := by
    have := FourF.new (w.alloc (.cells #[.int .i64 x] 3)) (.int .i64 0) (.int .i64 0) (.int .i64 0) (.int .i64 0) 81
    rwa [World.size_alloc] at this
  have BI : Hid (Boxed (((w.alloc (.cells #[.int .i64 x] 3)).alloc (.cells #[.int .i64 0, .int .i64 0, .int .i64 0, .int .i64 0] 81)).alloc (.cells #[.int .i64 0] 3)) (w.heap.size + 1 + 1) 3 (.int .i64 0)) := by
    have := Boxed.new ((w.alloc (.cells #[.int .i64 x] 3)).alloc (.cells #[.int .i64 0, .int .i64 0, .int .i64 0, .int .i64 0] 81)) 3 (.int .i64 0)
    rwa [World.size_alloc, World.size_alloc] at this
  have BX : Hid (Boxed ((((w.alloc (.cells #[.int .i64 x] 3)).alloc (.cells #[.int .i64 0, .int .i64 0, .int .i64 0, .int .i64 0] 81)).alloc (.cells #[.int .i64 0] 3)).alloc (.cells #[.slice (some ⟨b, off, none⟩) n cap] 22)) (w.heap.size + 1 + 1 + 1) 22 (.slice (some ⟨b, off, none⟩) n cap)) := by
    have := Boxed.new (((w.alloc (.cells #[.int .i64 x] 3)).alloc (.cells #[.int .i64 0, .int .i64 0, .int .i64 0, .int .i64 0] 81)).alloc (.cells #[.int .i64 0] 3)) 22 (.slice (some ⟨b, off, none⟩) n cap)
    rwa [World.size_alloc, World.size_alloc, World.size_alloc] at this
  replace BA := Lib.hid (((BA.out.alloc (.cells #[.int .i64 0, .int .i64 0, .int .i64 0, .int .i64 0] 81)).alloc (.cells #[.int .i64 0] 3)).alloc (.cells #[.slice (some ⟨b, off, none⟩) n cap] 22))
  replace BP := Lib.hid ((BP.out.alloc (.cells #[.int .i64 0] 3)).alloc (.cells #[.slice (some ⟨b, off, none⟩) n cap] 22))
  replace BI := Lib.hid (BI.out.alloc (.cells #[.slice (some ⟨b, off, none⟩) n cap] 22))
  have X1 : Hid (Below w.heap.size w ((((w.alloc (.cells #[.int .i64 x] 3)).alloc (.cells #[.int .i64 0, .int .i64 0, .int .i64 0, .int .i64 0] 81)).alloc (.cells #[.int .i64 0] 3)).alloc (.cells #[.slice (some ⟨b, off, none⟩) n cap] 22))) := bel_alloc (bel_alloc (bel_alloc (bel_alloc (Below.refl _ _))))
  obtain ⟨W0, hW0⟩ : ∃ W0, ((((w.alloc (.cells #[.int .i64 x] 3)).alloc (.cells #[.int .i64 0, .int .i64 0, .int .i64 0, .int .i64 0] 81)).alloc (.cells #[.int .i64 0] 3)).alloc (.cells #[.slice (some ⟨b, off, none⟩) n cap] 22)) = W0 := ⟨_, rfl⟩
  have hsz : W0.heap.size = w.heap.size + 1 + 1 + 1 + 1 := by rw [← hW0]; simp
  rw [hW0] at BA BP BI BX X1 ⊢
  clear hW0
  have hl1 : ∀ j, j < n → W0.cell? ⟨b, off + j * 2, none⟩ = some (.int .i64 (gX l j)) ∧ W0.cell? ⟨b, off + j * 2 + 1, none⟩ = some (.int .i64 (gR l j)) := fun j hj => by rw [(bcell X1.out).1 _ _ hb, (bcell X1.out).1 _ _ hb]; exact hc.out j hj
  refine wpIn_rangeFunc_ownH rfl (by omega) (gf := 94) (lb := #[.pointer (some ⟨w.heap.size + 1 + 1 + 1, 0, none⟩)]) rfl trivial (enters_of Tryz.func94 (by kernel_rfl) rfl)
    (pieces_stops 9 (w.heap.size + 1 + 1 + 1) w.heap.size b off n cap l (by omega) (by omega) hb W0 X1.out.size BX.out.cell hl1) kpB_t (kpB_b X1.out.size) (Below.refl _ _) (fun _ => rfl)
    (fun pre W => (∀ j ∈ pre, gX l (j.val + 1) < x) ∧ Boxed W w.heap.size 3 (.int .i64 x) ∧ FourF (w.heap.size + 1) W (.int .i64 0) (.int .i64 0) (.int .i64 0) (.int .i64 0) ∧ Boxed W (w.heap.size + 1 + 1) 3 (.int .i64 0) ∧ Boxed W (w.heap.size + 1 + 1 + 1) 22 (.slice (some ⟨b, off, none⟩) n cap) ∧ Below w.heap.size w W)
    (fun c pre W => c = .ret ∧ (∃ pre' j, pre = pre' ++ [j] ∧ (∀ i ∈ pre', gX l (i.val + 1) < x) ∧ x ≤ gX l (j.val + 1) ∧ Four (w.heap.size + 1) W (.int .i64 (gX l j.val)) (.int .i64 (gR l j.val)) (.int .i64 (gX l (j.val + 1))) (.int .i64 (gR l (j.val + 1))) ∧ W.cell? ⟨w.heap.size + 1 + 1, 0, none⟩ = some (.int .i64 ((j.val : Int) + 1))) ∧ Below w.heap.size w W)
    (fun s A B row ⟨i1, i2, i3, i4, i5, i6⟩ hg hr => ⟨i1, box_kept i2 hg (fun r e => (hr r e).2), fourF_kept i3 hg (fun r e => (hr r e).2), box_kept i4 hg (fun r e => (hr r e).2), box_kept i5 hg (fun r e => (hr r e).2), ownFrom_below (β := Unit) (Nat.le_refl _) X1.out.size () A B row i6 hg hr⟩)
    (fun c s A B row ⟨i1, ⟨pre', j, h1, h2, h3, h4, h5⟩, i6⟩ hg hr => ⟨i1, ⟨pre', j, h1, h2, h3, four_kept h4 hg (fun r e => (hr r e).2), cell_kept h5 hg (fun r e => (hr r e).2)⟩, ownFrom_below (β := Unit) (Nat.le_refl _) X1.out.size () A B row i6 hg hr⟩)
    ⟨(fun j hj => by cases hj), BA.out, BP.out, BI.out, BX.out, X1.out⟩
    (fun y a' W => ∃ Bx : Nat, w.heap.size + 1 + 1 + 1 < Bx ∧ Four Bx W (.int .i64 (gX l y.val)) (.int .i64 (gR l y.val)) (.int .i64 (gX l (y.val + 1))) (.int .i64 (gR l (y.val + 1))) ∧ a' = { tmps := #[.slice (some ⟨b, off, none⟩) n cap, .int .i64 x, undef, .pointer (some ⟨w.heap.size, 0, none⟩), .pointer (some ⟨w.heap.size + 1, 0, none⟩), .pointer (some ⟨w.heap.size + 1 + 1, 0, none⟩), .int .i64 ((y.val : Int) + 1), .pointer (some ⟨Bx, 0, none⟩), .slice (some ⟨b, off, none⟩) n cap, .func (.func 94) #[] #[.pointer (some ⟨w.heap.size + 1 + 1 + 1, 0, none⟩)], .int .i64 ((y.val : Int) + 1), .agg #[.int .i64 (gX l y.val), .int .i64 (gR l y.val), .int .i64 (gX l (y.val + 1)), .int .i64 (gR l (y.val + 1))], undef, undef, undef, undef, undef, undef, undef, undef], defers := [] })
    (fun y a' _ A B row ⟨Bx, h1, h2, h3⟩ hg hr => ⟨Bx, h1, four_kept h2 hg (fun r e => (hr r e).2), h3⟩) ?assign ?body ?done ?stop
  case assign =>
    rintro lp pre y W K ⟨i1, i2, i3, i4, i5, i6⟩ hK
    dsimp only [encP]
    generalize gX l y.val = u at *
    generalize gR l y.val = p at *
    generalize gX l (y.val + 1) = v at *
    generalize gR l (y.val + 1) = q at *
    gi_wp2
    exact hK _ _ ((KeepsOthers.alloc _ _).from _) ⟨(Below.refl _ W).alloc i6.size _, fun v e => (cell_al _ e)⟩ ⟨i1, i2.alloc _, i3.alloc _, i4.alloc _, i5.alloc _, bA i6 _⟩ ⟨W.heap.size, i5.lt, Four.new _ _ _ _ _ _, rfl⟩
  case body =>
    rintro lp pre y aa W hlp ⟨rr, hrr⟩ ⟨i1, i2, i3, i4, i5, i6⟩ ⟨Bx, hBx, iX, rfl⟩ hlen
    have hyl := y.isLt
    have hcx := i2.cell
    have hci := i4.cell
    have hfi := i4.frozen
    have FF := Lib.hid iX
    by_cases hq : x ≤ gX l (y.val + 1)
    · have hq2 : Hid (x ≤ gX l (y.val + 1)) := hq
      have e1 : Hid (∀ (W' : World), Four (w.heap.size + 1) W' (.int .i64 (gX l y.val)) (.int .i64 (gR l y.val)) (.int .i64 (gX l (y.val + 1))) (.int .i64 (gR l (y.val + 1))) → W'.cell? ⟨w.heap.size + 1 + 1, 0, none⟩ = some (.int .i64 ((y.val : Int) + 1)) → ∃ pre' j, pre ++ [y] = pre' ++ [j] ∧ (∀ i ∈ pre', gX l (i.val + 1) < x) ∧ x ≤ gX l (j.val + 1) ∧ Four (w.heap.size + 1) W' (.int .i64 (gX l j.val)) (.int .i64 (gR l j.val)) (.int .i64 (gX l (j.val + 1))) (.int .i64 (gR l (j.val + 1))) ∧ W'.cell? ⟨w.heap.size + 1 + 1, 0, none⟩ = some (.int .i64 ((j.val : Int) + 1))) := fun W' h4 h5 => ⟨pre, y, rfl, i1, hq2.out, h4, h5⟩
      clear hq2
      generalize gX l y.val = u at *
      generalize gR l y.val = p at *
      generalize gX l (y.val + 1) = v at *
      generalize gR l (y.val + 1) = q at *
      obtain ⟨f0, f1, f2, f3⟩ := iX
      obtain ⟨⟨z0, z1, z2, z3⟩, zf0, zf1, zf2, zf3⟩ := i3
      gi_wp2
      refine ⟨((keeps_set4 W (w.heap.size + 1) (.int .i64 u) (.int .i64 p) (.int .i64 v) (.int .i64 q)).trans (KeepsOthers.setCell _ ⟨w.heap.size + 1 + 1, 0, none⟩ (.int .i64 ((y.val : Int) + 1)))).from _, rfl, e1.out _ ?_ ?_, (bel_set4 i6 (w.heap.size + 1) (by omega) _ _ _ _).setCell (p := ⟨w.heap.size + 1 + 1, 0, none⟩) (by show w.heap.size ≤ w.heap.size + 1 + 1; omega) _⟩
      · exact four_apart (four_set ⟨z0, z1, z2, z3⟩ _ _ _ _) _ (by omega)
      · exact World.cell?_setCell_same _ _ _ (box_set4 (g := w.heap.size + 1) i4 (by omega) (.int .i64 u) (.int .i64 p) (.int .i64 v) (.int .i64 q)).cell
    · have e1 : ∀ j ∈ pre ++ [y], gX l (j.val + 1) < x := fun j hj => by
        rcases List.mem_append.1 hj with h | h
        · exact i1 j h
        · rw [List.mem_singleton.1 h]; omega
      generalize gX l y.val = u at *
      generalize gR l y.val = p at *
      generalize gX l (y.val + 1) = v at *
      generalize gR l (y.val + 1) = q at *
      obtain ⟨f0, f1, f2, f3⟩ := iX
      gi_wp2
      exact ⟨(KeepsOthers.refl _).from _, kpB_refl _ _ _, e1, i2, i3, i4, i5, i6⟩
  case done =>
    rintro D ys W hD rfl ⟨i1, _⟩ hK
    exfalso
    have hp := hi.out
    have h2 := hp.h2
    have h1 := hp.h1
    rw [← HN.out] at h2
    have := i1 ⟨i - 1, by omega⟩ (by
      have hv := ups_val (m := n - 1) (Nat.le_refl _)
      have : i - 1 ∈ (ups (n - 1) (n - 1)).map (fun j => j.val) := by rw [hv]; exact List.mem_range.2 (by omega)
      obtain ⟨y, hy, he⟩ := List.mem_map.1 this
      have : y = ⟨i - 1, by omega⟩ := Fin.ext he
      rwa [this] at hy)
    simp only [show i - 1 + 1 = i by omega] at this
    have := hp.h3
    omega
  case stop =>
    rintro D cc pre W hD ⟨k, hk, hpre⟩ ⟨rfl, ⟨pre', j, hpj, h2, h3, h4, h5⟩, i6⟩ hK
    have hji : j.val + 1 = i := by
      have hv := ups_val hk
      rw [← hpre, hpj, List.map_append] at hv
      have hlen := congrArg List.length hv
      simp only [List.length_append, List.length_map, List.length_cons, List.length_nil, List.length_range] at hlen
      obtain ⟨k', rfl⟩ : ∃ k', k = k' + 1 := ⟨k - 1, by omega⟩
      rw [List.range_succ] at hv
      have hinj := List.append_inj hv (by simp; omega)
      have hj : j.val = k' := by have := hinj.2; simpa using this
      have hm : pre'.map (fun j => j.val) = List.range k' := hinj.1
      refine (IsPc.one (x := x) (l := l) ⟨by omega, ?_, h3, fun m m1 m2 => ?_⟩ hi.out)
      · have := j.isLt; have := HN.out; omega
      · have : m - 1 ∈ pre'.map (fun j => j.val) := by rw [hm]; exact List.mem_range.2 (by omega)
        obtain ⟨y, hy, he⟩ := List.mem_map.1 this
        have h := h2 y hy
        have he' : y.val = m - 1 := he
        rwa [show y.val + 1 = m by omega] at h
    have ei : ((j.val : Int) + 1) = (i : Int) := by omega
    obtain ⟨k0, k1, k2, k3⟩ := h4
    gi_wp2
    refine ⟨by simp, .inl ⟨_, _, rfl, run_takeDeferred hK, ?_⟩⟩
    have c0 := cell_kept k0 (grownBy_putObj' _ D (.deferred none)) (fun r e => by cases e; exact ⟨_, hK, rfl⟩)
    have c1 := cell_kept k1 (grownBy_putObj' _ D (.deferred none)) (fun r e => by cases e; exact ⟨_, hK, rfl⟩)
    have c2 := cell_kept k2 (grownBy_putObj' _ D (.deferred none)) (fun r e => by cases e; exact ⟨_, hK, rfl⟩)
    have c3 := cell_kept k3 (grownBy_putObj' _ D (.deferred none)) (fun r e => by cases e; exact ⟨_, hK, rfl⟩)
    have c4 := cell_kept h5 (grownBy_putObj' _ D (.deferred none)) (fun r e => by cases e; exact ⟨_, hK, rfl⟩)
    refine ⟨.tuple #[.agg #[.int .i64 (gX l j.val), .int .i64 (gR l j.val), .int .i64 (gX l (j.val + 1)), .int .i64 (gR l (j.val + 1))], .int .i64 ((j.val : Int) + 1)], ?_, by subst hji; simp, i6.trans (belowK_b (w := w) (Nat.le_refl _) _ D _ _ (by omega) hK rfl rfl)⟩
    simp [results, Tryz.results60, go_sem, c0, c1, c2, c3, c4]
end Go.Proofs.YtmdpdpbkbakidaaGreat

/- Plain arithmetic: amounts, and the steps of the division of two words by one. No program stands in this text. -/
namespace Go.Proofs.YtmdpdpbkbakidaaGreat

/-- an amount -/
def isAm (n : Int) : Bool := decide (0 ≤ n) && decide (n ≤ 128849018880000)

theorem isAm_iff (n : Int) : isAm n = true ↔ 0 ≤ n ∧ n ≤ 128849018880000 := by simp [isAm]
theorem isAm_not (n : Int) : isAm n = false ↔ n < 0 ∨ 128849018880000 < n := by
  rw [Bool.eq_false_iff, ne_eq, isAm_iff]; omega

theorem all_take_succ (zs : List Int) (k : Nat) (hk : k < zs.length) : ((zs.take (k + 1)).all isAm) = ((zs.take k).all isAm && isAm (zs.getD k 0)) := by
  rw [List.take_add_one, List.all_append]
  simp [List.getD, List.getElem?_eq_getElem hk]

theorem all_false_at (zs : List Int) (k : Nat) (hk : k < zs.length) (h : isAm (zs.getD k 0) = false) : zs.all isAm = false := by
  rw [Bool.eq_false_iff]; intro hall
  rw [List.all_eq_true] at hall
  have := hall (zs.getD k 0) (by simp [List.getD, List.getElem?_eq_getElem hk])
  rw [this] at h; cases h

/-! the division of two words by one -/

theorem norm_shift (y : Nat) (h1 : 1 ≤ y) (h2 : y < 2 ^ 47) : ∃ s : Nat, 64 - Lib.bitLen y = s ∧ 17 ≤ s ∧ s ≤ 63 ∧ Lib.bitLen y ≤ 64 ∧ 2 ^ 63 ≤ y * 2 ^ s ∧ y * 2 ^ s < 2 ^ 64 := by
  obtain ⟨a, b, c⟩ := Lib.bitLenAux_bounds 64 y (by omega) (by omega)
  have hle := Lib.bitLen_le y 47 (by omega) h2
  unfold Lib.bitLen at *
  generalize hL : Lib.bitLenAux 64 y = L at *
  refine ⟨64 - L, rfl, by omega, by omega, by omega, ?_, ?_⟩
  · have : 2 ^ (L - 1) * 2 ^ (64 - L) ≤ y * 2 ^ (64 - L) := Nat.mul_le_mul_right _ b
    rw [← Nat.pow_add, show L - 1 + (64 - L) = 63 by omega] at this
    exact this
  · have : y * 2 ^ (64 - L) < 2 ^ L * 2 ^ (64 - L) := Nat.mul_lt_mul_of_pos_right c (Nat.two_pow_pos _)
    rw [← Nat.pow_add, show L + (64 - L) = 64 by omega] at this
    exact this

theorem split_prod (q Y a c : Int) (hY : Y = a * 4294967296 + c) : q * Y = q * a * 4294967296 + q * c := by
  rw [hY, Int.mul_add, Int.mul_assoc]

/-- the first guess is not too small -/
theorem dig_start (U u Y a c : Int) (hY : Y = a * 4294967296 + c) (c0 : 0 ≤ c) (ha : 1 ≤ a) (hU : 0 ≤ U) (u0 : 0 ≤ u) (u1 : u < 4294967296) :
    (U * 4294967296 + u) / Y ≤ U / a := by
  have hYp : 0 < Y := by omega
  apply Int.le_ediv_of_mul_le (by omega)
  have h1 : (U * 4294967296 + u) / Y * Y ≤ U * 4294967296 + u := Int.ediv_mul_le _ (by omega)
  have hq : 0 ≤ (U * 4294967296 + u) / Y := Int.ediv_nonneg (by omega) (by omega)
  generalize (U * 4294967296 + u) / Y = q at *
  rw [split_prod q Y a c hY] at h1
  have := Int.mul_nonneg hq c0
  omega

/-- if the guess's test says 'too great', the next one is not too small -/
theorem dig_next (U u Y a c q1 r : Int) (hY : Y = a * 4294967296 + c) (hYp : 0 < Y) (hU : U < Y) (u1 : u < 4294967296) (hr : q1 * a + r = U)
    (ht : 4294967296 ≤ q1 ∨ 4294967296 * r + u < q1 * c) : (U * 4294967296 + u) / Y ≤ q1 - 1 := by
  have h1 : (U * 4294967296 + u) / Y < q1 := by
    apply Int.ediv_lt_of_lt_mul hYp
    rcases ht with ht | ht
    · have : 4294967296 * Y ≤ q1 * Y := Int.mul_le_mul_of_nonneg_right ht (by omega)
      omega
    · rw [split_prod q1 Y a c hY]; omega
  omega

/-- if the guess's test says 'not too great', it is right -/
theorem dig_done (U u Y a c q1 r : Int) (hY : Y = a * 4294967296 + c) (hYp : 0 < Y) (hr : q1 * a + r = U)
    (hq : (U * 4294967296 + u) / Y ≤ q1) (ht : q1 * c ≤ 4294967296 * r + u) : q1 = (U * 4294967296 + u) / Y := by
  have : q1 ≤ (U * 4294967296 + u) / Y := by
    apply Int.le_ediv_of_mul_le hYp
    rw [split_prod q1 Y a c hY]; omega
  omega

/-- where the rest has become as great as 2^32, the guess is right -/
theorem dig_stop (U u Y a c q1 r : Int) (hY : Y = a * 4294967296 + c) (c0 : 0 ≤ c) (c1 : c < 4294967296) (ha : 1 ≤ a) (hU : U < Y) (hr : q1 * a + r = U) (hq0 : 0 ≤ q1)
    (u0 : 0 ≤ u) (hrb : 4294967296 ≤ r) (hq : (U * 4294967296 + u) / Y ≤ q1) : q1 = (U * 4294967296 + u) / Y := by
  have hlt : q1 < 4294967296 := by
    apply Int.not_le.1; intro hge
    have := Int.mul_le_mul_of_nonneg_right hge (show 0 ≤ a by omega)
    omega
  apply dig_done U u Y a c q1 r hY (by omega) hr hq
  have h1 : q1 * c ≤ 4294967295 * 4294967295 := Int.mul_le_mul (by omega) (by omega) c0 (by omega)
  omega

/-- the digit fits 32 bits -/
theorem dig_lt (U u Y : Int) (hU0 : 0 ≤ U) (hU : U < Y) (u0 : 0 ≤ u) (u1 : u < 4294967296) : 0 ≤ (U * 4294967296 + u) / Y ∧ (U * 4294967296 + u) / Y < 4294967296 := by
  constructor
  · exact Int.ediv_nonneg (by omega) (by omega)
  · apply Int.ediv_lt_of_lt_mul (by omega); omega

/-- what is left behind a digit, in wrapped words -/
theorem dig_rest (U u Y q : Int) (hY : 0 < Y) (hY1 : Y ≤ 18446744073709551616) (hq : q = (U * 4294967296 + u) / Y) :
    IntKind.u64.wrap (IntKind.u64.wrap (IntKind.u64.wrap (U * 4294967296) + u) - IntKind.u64.wrap (q * Y)) = (U * 4294967296 + u) % Y := by
  have h1 := Int.emod_add_mul_ediv (U * 4294967296 + u) Y
  have h2 := Int.emod_nonneg (U * 4294967296 + u) (show Y ≠ 0 by omega)
  have h3 := Int.emod_lt_of_pos (U * 4294967296 + u) hY
  rw [← hq, Int.mul_comm Y q] at h1
  simp only [IntKind.wrap_u64]
  omega

theorem dig_quot (U u0 u1 Y : Int) (hY : 0 < Y) :
    (U * 4294967296 + u1) / Y * 4294967296 + ((U * 4294967296 + u1) % Y * 4294967296 + u0) / Y = ((U * 4294967296 + u1) * 4294967296 + u0) / Y := by
  have h1 := Int.emod_add_mul_ediv (U * 4294967296 + u1) Y
  generalize U * 4294967296 + u1 = N at *
  have : N * 4294967296 + u0 = (N % Y * 4294967296 + u0) + (N / Y * 4294967296) * Y := by
    have e : N / Y * 4294967296 * Y = Y * (N / Y) * 4294967296 := by
      rw [Int.mul_right_comm, Int.mul_comm (N / Y) Y]
    rw [e]; omega
  rw [this, Int.add_mul_ediv_right _ _ (by omega)]
  omega

theorem dig_rem (U u0 u1 Y : Int) :
    ((U * 4294967296 + u1) % Y * 4294967296 + u0) % Y = ((U * 4294967296 + u1) * 4294967296 + u0) % Y := by
  have h1 := Int.emod_add_mul_ediv (U * 4294967296 + u1) Y
  generalize U * 4294967296 + u1 = N at *
  have : N * 4294967296 + u0 = (N % Y * 4294967296 + u0) + (N / Y * 4294967296) * Y := by
    have e : N / Y * 4294967296 * Y = Y * (N / Y) * 4294967296 := by
      rw [Int.mul_right_comm, Int.mul_comm (N / Y) Y]
    rw [e]; omega
  rw [this, Int.add_mul_emod_self_right]

/-- two words as one number -/
def twoW (hi lo : Int) : Int := hi * 18446744073709551616 + lo

/-- the upper and the lower word -/
def hiW (p : Int) : Int := p / 18446744073709551616
def loW (p : Int) : Int := p % 18446744073709551616
theorem hiW_big (p c : Int) (h : 128849018880000 * c < p) (hp : p < 18446744073709551616 * c) (hc : 0 < c): hiW p < c := by unfold hiW; exact Int.ediv_lt_of_lt_mul (by omega) (by rw [Int.mul_comm]; omega)
theorem hiW_ge (p c : Int) (h : c ≤ hiW p) (hc : 0 < c) : 18446744073709551616 ≤ p / c := by
  apply Int.le_ediv_of_mul_le hc
  unfold hiW at h; rw [Int.mul_comm]; omega
theorem twoW_split (p : Int) : twoW (hiW p) (loW p) = p := by unfold twoW hiW loW; omega
theorem loW_nonneg (p : Int) : 0 ≤ loW p := by unfold loW; omega
theorem loW_le (p : Int) : loW p ≤ 18446744073709551615 := by unfold loW; omega
theorem hiW_nonneg (p : Int) (h : 0 ≤ p) : 0 ≤ hiW p := by unfold hiW; omega

theorem or_add (h g : Int) (s : Nat) (h0 : 0 ≤ h) (g0 : 0 ≤ g) (gs : g < 2 ^ s) (b : h * 2 ^ s + g < 18446744073709551616) : bits .or .u64 (h * 2 ^ s) g = h * 2 ^ s + g := by
  obtain ⟨A, rfl⟩ := Int.eq_ofNat_of_zero_le h0
  obtain ⟨B, rfl⟩ := Int.eq_ofNat_of_zero_le g0
  have e : ((A : Int) * 2 ^ s) = ((A * 2 ^ s : Nat) : Int) := by simp
  have gs' : B < 2 ^ s := by exact_mod_cast gs
  rw [e] at b ⊢
  rw [u64_or_nat _ _ (by omega) (by omega), Nat.mul_comm A, ← Nat.two_pow_add_eq_or_of_lt gs']
  omega

theorem and_low (n : Int) (h0 : 0 ≤ n) (h1 : n ≤ 18446744073709551615) : bits .and .u64 n 4294967295 = n % 4294967296 := by
  obtain ⟨A, rfl⟩ := Int.eq_ofNat_of_zero_le h0
  have := u64_and_nat A 4294967295 (by omega) (by omega)
  rw [nat_mask32] at this
  simpa using this

theorem shift_low (lo : Int) (s : Nat) (h0 : 0 ≤ lo) (hs : s ≤ 64) :
    lo * 2 ^ s = lo / 2 ^ (64 - s) * 18446744073709551616 + lo * 2 ^ s % 18446744073709551616 := by
  have hp : (2 : Int) ^ (64 - s) * 2 ^ s = 18446744073709551616 := by
    rw [← Int.pow_add, show 64 - s + s = 64 by omega]; rfl
  have hs0 : (0 : Int) < 2 ^ s := Int.pow_pos (by omega)
  have hs1 : (0 : Int) < 2 ^ (64 - s) := Int.pow_pos (by omega)
  have e1 := Int.emod_add_mul_ediv lo (2 ^ (64 - s))
  have e2 := Int.emod_nonneg lo (show (2 : Int) ^ (64 - s) ≠ 0 by omega)
  have e3 := Int.emod_lt_of_pos lo hs1
  generalize lo / 2 ^ (64 - s) = G at *
  generalize lo % 2 ^ (64 - s) = t at *
  have e4 : lo * 2 ^ s = t * 2 ^ s + G * 18446744073709551616 := by
    rw [← e1, Int.add_mul, Int.mul_right_comm, hp, Int.mul_comm G]
  have e5 : 0 ≤ t * 2 ^ s := Int.mul_nonneg e2 (by omega)
  have e6 : t * 2 ^ s < 18446744073709551616 := by
    rw [← hp]; exact Int.mul_lt_mul_of_pos_right e3 hs0
  rw [e4]; omega

/-- all that the walk of Div64 has to be told of its numbers -/
structure Shifted (hi lo y : Int) (s : Nat) (H G L U : Int) : Prop where
  G0 : 0 ≤ G
  Gs : G < 2 ^ s
  H0 : 0 ≤ H
  sum : U = H + G
  L0 : 0 ≤ L
  L1 : L < 18446744073709551616
  tot : U * 18446744073709551616 + L = twoW hi lo * 2 ^ s
  lt : U < y * 2 ^ s

theorem Shifted.mk' (hi lo y : Int) (s : Nat) (h0 : 0 ≤ hi) (h1 : hi < y) (h2 : 0 ≤ lo) (h3 : lo ≤ 18446744073709551615) (hs : s ≤ 64) :
    Shifted hi lo y s (hi * 2 ^ s) (lo / 2 ^ (64 - s)) (lo * 2 ^ s % 18446744073709551616) (hi * 2 ^ s + lo / 2 ^ (64 - s)) := by
  have hs0 : (0 : Int) < 2 ^ s := Int.pow_pos (by omega)
  have hs1 : (0 : Int) < 2 ^ (64 - s) := Int.pow_pos (by omega)
  have hp : (2 : Int) ^ s * 2 ^ (64 - s) = 18446744073709551616 := by
    rw [← Int.pow_add, show s + (64 - s) = 64 by omega]; rfl
  have tot : (hi * 2 ^ s + lo / 2 ^ (64 - s)) * 18446744073709551616 + lo * 2 ^ s % 18446744073709551616 = twoW hi lo * 2 ^ s := by
    have := shift_low lo s h2 hs
    unfold twoW
    rw [Int.add_mul, Int.add_mul, Int.mul_right_comm hi]
    omega
  have hL0 := Int.emod_nonneg (lo * 2 ^ s) (show (18446744073709551616 : Int) ≠ 0 by omega)
  have hL1 := Int.emod_lt_of_pos (lo * 2 ^ s) (show (0 : Int) < 18446744073709551616 by omega)
  refine ⟨Int.ediv_nonneg h2 (by omega), ?_, Int.mul_nonneg h0 (by omega), rfl, hL0, hL1, tot, ?_⟩
  · apply Int.ediv_lt_of_lt_mul hs1; rw [hp]; omega
  · have hlt : twoW hi lo * 2 ^ s < y * 18446744073709551616 * 2 ^ s := by
      apply Int.mul_lt_mul_of_pos_right _ hs0
      unfold twoW; omega
    rw [Int.mul_right_comm y] at hlt
    generalize hi * 2 ^ s + lo / 2 ^ (64 - s) = U at *
    generalize y * 2 ^ s = Y at *
    generalize lo * 2 ^ s % 18446744073709551616 = L at *
    omega

theorem fin_quot (U L Y N y : Int) (s : Nat) (hY : Y = y * 2 ^ s) (hYp : 0 < Y) (hU0 : 0 ≤ U) (hU : U < Y) (hY1 : Y ≤ 18446744073709551616) (L0 : 0 ≤ L) (L1 : L < 18446744073709551616)
    (tot : U * 18446744073709551616 + L = N * 2 ^ s) :
    IntKind.u64.wrap (IntKind.u64.wrap ((U * 4294967296 + L / 4294967296) / Y * 4294967296) + ((U * 4294967296 + L / 4294967296) % Y * 4294967296 + L % 4294967296) / Y) = N / y := by
  have a1 := dig_lt U (L / 4294967296) Y hU0 hU (by omega) (by omega)
  have b0 := Int.emod_nonneg (U * 4294967296 + L / 4294967296) (show Y ≠ 0 by omega)
  have b1 := Int.emod_lt_of_pos (U * 4294967296 + L / 4294967296) hYp
  have a2 := dig_lt ((U * 4294967296 + L / 4294967296) % Y) (L % 4294967296) Y b0 b1 (by omega) (by omega)
  have e := dig_quot U (L % 4294967296) (L / 4294967296) Y hYp
  have e2 : (U * 4294967296 + L / 4294967296) * 4294967296 + L % 4294967296 = N * 2 ^ s := by omega
  have hs0 : (0 : Int) < 2 ^ s := Int.pow_pos (by omega)
  rw [e2] at e
  have e3 : N * 2 ^ s / Y = N / y := by rw [hY, Int.mul_ediv_mul_of_pos_left _ _ hs0]
  rw [e3] at e
  rw [← e]
  simp only [IntKind.wrap_u64]
  omega

theorem fin_rest (U L Y N y : Int) (s : Nat) (hY : Y = y * 2 ^ s) (hYp : 0 < Y) (hY1 : Y ≤ 18446744073709551616)
    (tot : U * 18446744073709551616 + L = N * 2 ^ s) :
    IntKind.u64.wrap (IntKind.u64.wrap (IntKind.u64.wrap ((U * 4294967296 + L / 4294967296) % Y * 4294967296) + L % 4294967296) - IntKind.u64.wrap (((U * 4294967296 + L / 4294967296) % Y * 4294967296 + L % 4294967296) / Y * Y)) / 2 ^ s = N % y := by
  rw [dig_rest _ (L % 4294967296) Y _ hYp hY1 rfl, dig_rem]
  have e2 : (U * 4294967296 + L / 4294967296) * 4294967296 + L % 4294967296 = N * 2 ^ s := by omega
  have hs0 : (0 : Int) < 2 ^ s := Int.pow_pos (by omega)
  rw [e2, hY, Int.mul_comm N, Int.mul_comm y, Int.mul_emod_mul_of_pos _ _ hs0, Int.mul_ediv_cancel_left _ (by omega)]

/-- what proportion.Of returns: the error, the quotient, the remainder -/
def ofE (a b c : Int) : Int :=
  if isAm a && isAm b && isAm c then (if c = 0 then 16 else if a * b / c ≤ 128849018880000 then 0 else 15) else 2
def ofQ (a b c : Int) : Int := if ofE a b c = 0 then a * b / c else 0
def ofR (a b c : Int) : Int := if ofE a b c = 0 then a * b % c else 0

/-- what Up makes of what Of returns -/
def upE (q r e : Int) : Int := if e = 0 then (if q + (if 0 < r then 1 else 0) ≤ 128849018880000 then 0 else 15) else e
def upQ (q r e : Int) : Int := if upE q r e = 0 then q + (if 0 < r then 1 else 0) else 0
/-- what Compare returns -/
def cmpE (a b c d : Int) : Int := if isAm a && isAm b && isAm c && isAm d then (if b = 0 then 16 else if d = 0 then 16 else 0) else 2
def cmpN (x y : Int) : Int := if x < y then -1 else if y < x then 1 else 0
def cmpC (a b c d : Int) : Int := if cmpE a b c d = 0 then cmpN (a * d) (c * b) else 0

theorem ofQ_bd (a b c : Int) : 0 ≤ ofQ a b c ∧ ofQ a b c ≤ 128849018880000 := by
  unfold ofQ
  by_cases h : ofE a b c = 0
  · rw [if_pos h]
    unfold ofE at h
    split at h
    · rename_i h1
      simp only [Bool.and_eq_true, isAm_iff] at h1
      split at h
      · omega
      · split at h
        · exact ⟨Int.ediv_nonneg (Int.mul_nonneg h1.1.1.1 h1.1.2.1) h1.2.1, by assumption⟩
        · omega
    · omega
  · rw [if_neg h]; omega
theorem ofR_bd (a b c : Int) : 0 ≤ ofR a b c ∧ ofR a b c ≤ 128849018880000 := by
  unfold ofR
  by_cases h : ofE a b c = 0
  · rw [if_pos h]
    unfold ofE at h
    split at h
    · rename_i h1
      simp only [Bool.and_eq_true, isAm_iff] at h1
      split at h
      · omega
      · have := Int.emod_nonneg (a * b) (show c ≠ 0 by assumption)
        have := Int.emod_lt_of_pos (a * b) (show 0 < c by omega)
        omega
    · omega
  · rw [if_neg h]; omega

end Go.Proofs.YtmdpdpbkbakidaaGreat

/- math/bits.Div64: what it returns where the upper word is less than the divisor. -/
namespace Go.Proofs.YtmdpdpbkbakidaaGreat
open Go.RowKit

/-- what the guess's loop has to be told of a digit: 'D' is the digit -/
structure Dig (a c U u D : Int) : Prop where
  next : ∀ q r : Int, D ≤ q → q * a + r = U → (4294967296 ≤ q ∨ 4294967296 * r + u < q * c) → D ≤ q - 1
  done : ∀ q r : Int, D ≤ q → q * a + r = U → q * c ≤ 4294967296 * r + u → q = D
  stop : ∀ q r : Int, D ≤ q → q * a + r = U → 4294967296 ≤ r → q = D
  prod : ∀ q : Int, 0 ≤ q → q < 4294967296 → 0 ≤ q * c ∧ q * c ≤ 18446744073709551615
  pos : 0 ≤ D

theorem Dig.mk' (U u Y a c : Int) (hY : Y = a * 4294967296 + c) (c0 : 0 ≤ c) (c1 : c < 4294967296) (ha : 1 ≤ a) (hU0 : 0 ≤ U) (hU : U < Y) (u0 : 0 ≤ u) (u1 : u < 4294967296) :
    Dig a c U u ((U * 4294967296 + u) / Y) where
  next q r _ hr ht := dig_next U u Y a c q r hY (by omega) hU u1 hr ht
  done q r hq hr ht := dig_done U u Y a c q r hY (by omega) hr hq ht
  stop q r hq hr ht := dig_stop U u Y a c q r hY c0 c1 ha hU hr (by have := (dig_lt U u Y hU0 hU u0 u1).1; omega) u0 ht hq
  prod q h0 h1 := by
    have a1 := Int.mul_nonneg h0 c0
    have a2 : q * c ≤ 4294967295 * 4294967295 := Int.mul_le_mul (by omega) (by omega) c0 (by omega)
    omega
  pos := (dig_lt U u Y hU0 hU u0 u1).1

theorem ret_two {k l : IntKind} {a b c d : Int} (h : a = b) (g : c = d) : Ending.returned (.tuple #[.int k a, .int l c]) = .returned (.tuple #[.int k b, .int l d]) := by rw [h, g]

theorem mul_pred (q a r U : Int) (h : q * a + r = U) : (q - 1) * a + (r + a) = U := by
  rw [Int.sub_mul]; omega

set_option maxHeartbeats 1000000 in
set_option maxRecDepth 100000 in
theorem div64_core (hi lo y : Int) (s : Nat) (Y a c H G U L u1 u0 g r g2 r2 Q1 R1 Q0 Q R : Int) (w : World) (h0 : 1 ≤ hi) (h1 : hi < y) (h2 : 0 ≤ lo) (h3 : lo ≤ 18446744073709551615) (h4 : y ≤ 140737488355327)
   (hs0 : 17 ≤ s) (hs1 : s ≤ 63)
   (lz : Hid (Calls Tryz.prog 107 #[.int .u64 y] w fun e w' => e = .returned (.int .i64 s) ∧ w = w'))
   (yb0 : 0 ≤ y * 2 ^ s) (yb1 : y * 2 ^ s ≤ 18446744073709551615) (hb0 : 0 ≤ hi * 2 ^ s) (hb1 : hi * 2 ^ s ≤ 18446744073709551615)
   (eY : y * 2 ^ s = Y) (ea : Y / 4294967296 = a) (ec : bits .and .u64 Y 4294967295 = c) (eH : hi * 2 ^ s = H) (eG : lo / 2 ^ (64 - s) = G) (eU : bits .or .u64 H G = U)
   (eL : IntKind.u64.wrap (lo * 2 ^ s) = L) (e1 : L / 4294967296 = u1) (e0 : bits .and .u64 L 4294967295 = u0) (eg : U / a = g) (er : U - g * a = r) 
   (b1 : 2147483648 ≤ a) (b2 : 0 ≤ U) (b3 : U ≤ 18446744073709551615) (b4 : a ≤ 4294967295) (b5 : 0 ≤ c) (b6 : c ≤ 4294967295) (b7 : 0 ≤ u1) (b8 : u1 ≤ 4294967295) (b9 : 0 ≤ u0) (b10 : u0 ≤ 4294967295) (b11 : 9223372036854775808 ≤ Y) (b12 : Y ≤ 18446744073709551615) (b13 : 0 ≤ g * a) (b14 : g * a ≤ U)
   (hR1 : Hid (IntKind.u64.wrap (IntKind.u64.wrap (IntKind.u64.wrap (U * 4294967296) + u1) - IntKind.u64.wrap (Q1 * Y)) = R1)) (c1 : 0 ≤ R1) (c2 : R1 ≤ 18446744073709551615) (eg2 : Hid (R1 / a = g2)) (er2 : Hid (R1 - R1 / a * a = r2)) (b15 : 0 ≤ R1 / a * a) (b16 : R1 / a * a ≤ R1)
   (dg2 : Dig a c R1 u0 Q0) (st2 : Q0 ≤ g2 ∧ 0 ≤ g2 ∧ g2 ≤ 18446744073709551615 ∧ 0 ≤ r2 ∧ r2 < 4294967296 ∧ Hid (g2 * a + r2 = R1))
   (dg1 : Dig a c U u1 Q1) (st1 : Q1 ≤ g ∧ 0 ≤ g ∧ g ≤ 18446744073709551615 ∧ 0 ≤ r ∧ r < 4294967296 ∧ Hid (g * a + r = U))
   (hQ : Hid (IntKind.u64.wrap (IntKind.u64.wrap (Q1 * 4294967296) + Q0) = Q)) (hR : Hid (IntKind.u64.wrap (IntKind.u64.wrap (IntKind.u64.wrap (R1 * 4294967296) + u0) - IntKind.u64.wrap (Q0 * Y)) / 2 ^ s = R)) :
    Calls Tryz.prog 97 #[.int .u64 hi, .int .u64 lo, .int .u64 y] w fun e w' => e = .returned (.tuple #[.int .u64 Q, .int .u64 R]) ∧ w' = w := by
  go_enter Tryz.func97, Tryz.ntmps97
  go_upto_region 16 with (go_at_call 107; refine (lz.out).mono ?_; rintro e w' ⟨rfl, rfl⟩)
  go_cut [2, 8, 9, 10, 11, 13, 14, 15, 16] (fun s2 s8 s9 s10 s11 s13 s14 s15 s16 wx => s2 = .int .u64 Y ∧ s8 = .int .u64 s ∧ s9 = .int .u64 a ∧ s10 = .int .u64 c ∧ s11 = .int .u64 U ∧ s13 = .int .u64 u1 ∧ s14 = .int .u64 u0 ∧ s15 = .int .u64 g ∧ s16 = .int .u64 r ∧ w = wx)
  case first =>
    go_wp2
    go_meet
    case rel => exact ⟨rfl, rfl, rfl, rfl, rfl, rfl, rfl, by rw [eg], rfl, rfl⟩
  case rest =>
  obtain ⟨rfl, rfl, rfl, rfl, rfl, rfl, rfl, rfl, rfl, rfl⟩ := hcut
  clear eY ea ec eH eG eU eL e1 e0 eg er
  go_upto_block 0 with fail
  go_cut [15] (fun s15 wx => s15 = .int .u64 Q1 ∧ w = wx)
  case first =>
    go_wp2_with fail
    go_loop [15, 16] (fun q r => ∃ q1 r1 : Int, q = .int .u64 q1 ∧ r = .int .u64 r1 ∧ Q1 ≤ q1 ∧ 0 ≤ q1 ∧ q1 ≤ 18446744073709551615 ∧ 0 ≤ r1 ∧ r1 < 4294967296 ∧ Hid (q1 * a + r1 = U)) (fun q _ => (intOf q).toNat)
    case atStart => exact ⟨g, r, rfl, rfl, st1.1, st1.2.1, st1.2.2.1, st1.2.2.2.1, st1.2.2.2.2.1, st1.2.2.2.2.2⟩
    case round =>
      obtain ⟨q1, r1, rfl, rfl, p1, p2, p2', p3, p4, p5⟩ := hrel
      by_cases t1 : 4294967296 ≤ q1
      · have HN := Lib.hid (dg1.next q1 r1 p1 p5.out (Or.inl t1))
        have HS := Lib.hid (dg1.stop (q1 - 1) (r1 + a) HN.out (mul_pred _ _ _ _ p5.out))
        have HR := Lib.hid (mul_pred _ _ _ _ p5.out)
        go_wp2
        · have ht : 4294967296 ≤ r1 + a := by assumption
          go_meet
          case rel => exact ⟨by rw [HS.out ht], rfl⟩
        · have ht : r1 + a < 4294967296 := by assumption
          go_round
          case rel => exact ⟨q1 - 1, r1 + a, rfl, rfl, HN.out, by omega, by omega, by omega, ht, HR.out⟩
          case measure => simp [intOf]; omega
      · obtain ⟨m1, m2⟩ := dg1.prod q1 p2 (by omega)
        by_cases t2 : 4294967296 * r1 + u1 < q1 * c
        · have HN := Lib.hid (dg1.next q1 r1 p1 p5.out (Or.inr t2))
          have HS := Lib.hid (dg1.stop (q1 - 1) (r1 + a) HN.out (mul_pred _ _ _ _ p5.out))
          have HR := Lib.hid (mul_pred _ _ _ _ p5.out)
          have q1p : 1 ≤ q1 := by have := dg1.pos; have := HN.out; omega
          go_wp2
          · have ht : 4294967296 ≤ r1 + a := by assumption
            go_meet
            case rel => exact ⟨by rw [HS.out ht], rfl⟩
          · have ht : r1 + a < 4294967296 := by assumption
            go_round
            case rel => exact ⟨q1 - 1, r1 + a, rfl, rfl, HN.out, by omega, by omega, by omega, ht, HR.out⟩
            case measure => simp [intOf]; omega
        · have HD := Lib.hid (dg1.done q1 r1 p1 p5.out (by omega))
          go_wp2
          go_meet
          case rel => exact ⟨by rw [HD.out], rfl⟩
  case rest =>
  obtain ⟨rfl, rfl⟩ := hcut
  clear st1 b13 b14
  go_upto_region 21 with fail
  go_cut [17] (fun s17 wx => s17 = .int .u64 R1 ∧ w = wx)
  case first =>
    go_wp2
    go_meet
    case rel => exact ⟨by rw [← hR1.out], rfl⟩
  case rest =>
  obtain ⟨rfl, rfl⟩ := hcut
  go_upto_region 23 with fail
  go_cut [18, 16] (fun s18 s16 wx => s18 = .int .u64 g2 ∧ s16 = .int .u64 r2 ∧ w = wx)
  case first =>
    go_wp2
    go_meet
    case rel => exact ⟨by rw [← eg2.out], by rw [← er2.out], rfl⟩
  case rest =>
  obtain ⟨rfl, rfl, rfl⟩ := hcut
  clear b15 b16
  go_upto_block 2 with fail
  go_cut [18] (fun s18 wx => s18 = .int .u64 Q0 ∧ w = wx)
  case first =>
    go_wp2_with fail
    go_loop [18, 16] (fun q r => ∃ q1 r1 : Int, q = .int .u64 q1 ∧ r = .int .u64 r1 ∧ Q0 ≤ q1 ∧ 0 ≤ q1 ∧ q1 ≤ 18446744073709551615 ∧ 0 ≤ r1 ∧ r1 < 4294967296 ∧ Hid (q1 * a + r1 = R1)) (fun q _ => (intOf q).toNat)
    case atStart => exact ⟨g2, r2, rfl, rfl, st2.1, st2.2.1, st2.2.2.1, st2.2.2.2.1, st2.2.2.2.2.1, st2.2.2.2.2.2⟩
    case round =>
      obtain ⟨q1, r1, rfl, rfl, p1, p2, p2', p3, p4, p5⟩ := hrel
      by_cases t1 : 4294967296 ≤ q1
      · have HN := Lib.hid (dg2.next q1 r1 p1 p5.out (Or.inl t1))
        have HS := Lib.hid (dg2.stop (q1 - 1) (r1 + a) HN.out (mul_pred _ _ _ _ p5.out))
        have HR := Lib.hid (mul_pred _ _ _ _ p5.out)
        go_wp2
        · have ht : 4294967296 ≤ r1 + a := by assumption
          go_meet
          case rel => exact ⟨by rw [HS.out ht], rfl⟩
        · have ht : r1 + a < 4294967296 := by assumption
          go_round
          case rel => exact ⟨q1 - 1, r1 + a, rfl, rfl, HN.out, by omega, by omega, by omega, ht, HR.out⟩
          case measure => simp [intOf]; omega
      · obtain ⟨m1, m2⟩ := dg2.prod q1 p2 (by omega)
        by_cases t2 : 4294967296 * r1 + u0 < q1 * c
        · have HN := Lib.hid (dg2.next q1 r1 p1 p5.out (Or.inr t2))
          have HS := Lib.hid (dg2.stop (q1 - 1) (r1 + a) HN.out (mul_pred _ _ _ _ p5.out))
          have HR := Lib.hid (mul_pred _ _ _ _ p5.out)
          have q1p : 1 ≤ q1 := by have := dg2.pos; have := HN.out; omega
          go_wp2
          · have ht : 4294967296 ≤ r1 + a := by assumption
            go_meet
            case rel => exact ⟨by rw [HS.out ht], rfl⟩
          · have ht : r1 + a < 4294967296 := by assumption
            go_round
            case rel => exact ⟨q1 - 1, r1 + a, rfl, rfl, HN.out, by omega, by omega, by omega, ht, HR.out⟩
            case measure => simp [intOf]; omega
        · have HD := Lib.hid (dg2.done q1 r1 p1 p5.out (by omega))
          go_wp2
          go_meet
          case rel => exact ⟨by rw [HD.out], rfl⟩
  case rest =>
  obtain ⟨rfl, rfl⟩ := hcut
  clear st2
  go_wp2
  go_ret2
  exact ⟨ret_two hQ.out hR.out, rfl⟩

theorem div64_pos (hi lo y : Int) (w : World) (h0 : 1 ≤ hi) (h1 : hi < y) (h2 : 0 ≤ lo) (h3 : lo ≤ 18446744073709551615) (h4 : y ≤ 140737488355327) :
    Calls Tryz.prog 97 #[.int .u64 hi, .int .u64 lo, .int .u64 y] w fun e w' => e = .returned (.tuple #[.int .u64 (twoW hi lo / y), .int .u64 (twoW hi lo % y)]) ∧ w' = w := by
  obtain ⟨s, e1, s0, s1, hL, n0, n1⟩ := norm_shift y.toNat (by omega) (by omega)
  have lz := Tryz.bits_LeadingZeros64 y w (by omega) (by omega)
  rw [show (64 - (Lib.bitLen y.toNat : Int)) = (s : Int) by omega] at lz
  have lz' : Calls Tryz.prog 107 #[.int .u64 y] w fun e w' => e = .returned (.int .i64 s) ∧ w = w' := lz.mono fun _ _ h => ⟨h.1, h.2.symm⟩
  have hy : ((y.toNat * 2 ^ s : Nat) : Int) = y * 2 ^ s := by rw [Int.natCast_mul, Int.toNat_of_nonneg (by omega)]; simp
  have m0 : 9223372036854775808 ≤ y * 2 ^ s := by rw [← hy]; have : 2 ^ 63 = 9223372036854775808 := rfl; omega
  have m1 : y * 2 ^ s ≤ 18446744073709551615 := by rw [← hy]; have : 2 ^ 64 = 18446744073709551616 := rfl; omega
  have sh := Shifted.mk' hi lo y s (by omega) h1 h2 h3 (by omega)
  have or := or_add hi (lo / 2 ^ (64 - s)) s (by omega) sh.G0 sh.Gs (by have := sh.lt; omega)
  have g0 := sh.G0
  have H0 := sh.H0
  have L0 := sh.L0
  have L1 := sh.L1
  have tot := sh.tot
  have lt := sh.lt
  clear sh e1 hL n0 n1 hy lz
  generalize hY : y * 2 ^ s = Y at *
  generalize hG : lo / 2 ^ (64 - s) = G at *
  generalize hLL : lo * 2 ^ s % 18446744073709551616 = L at *
  generalize hH : hi * 2 ^ s = H at *
  generalize hU : H + G = U at *
  have lt0 := and_low Y (by omega) (by omega)
  have lt1 := and_low L (by omega) (by omega)
  have u0 : 0 ≤ U := by omega
  have a0 : 2147483648 ≤ Y / 4294967296 := by omega
  have p0 : 0 ≤ U / (Y / 4294967296) * (Y / 4294967296) := Int.mul_nonneg (Int.ediv_nonneg u0 (by omega)) (by omega)
  have p1 : U / (Y / 4294967296) * (Y / 4294967296) ≤ U := Int.ediv_mul_le _ (by omega)
  have p2 : U % (Y / 4294967296) = U - U / (Y / 4294967296) * (Y / 4294967296) := by
    have := Int.emod_add_mul_ediv U (Y / 4294967296); rw [Int.mul_comm] at this; omega
  have p3 := Int.emod_nonneg U (show Y / 4294967296 ≠ 0 by omega)
  have p4 := Int.emod_lt_of_pos U (show 0 < Y / 4294967296 by omega)
  have p5 : U / (Y / 4294967296) ≤ U := Int.ediv_le_self _ u0
  have hYs : Y = Y / 4294967296 * 4294967296 + Y % 4294967296 := by omega
  have r0 := Int.emod_nonneg (U * 4294967296 + L / 4294967296) (show Y ≠ 0 by omega)
  have r1 := Int.emod_lt_of_pos (U * 4294967296 + L / 4294967296) (show 0 < Y by omega)
  have dg1 := Dig.mk' U (L / 4294967296) Y (Y / 4294967296) (Y % 4294967296) hYs (by omega) (by omega) (by omega) u0 lt (by omega) (by omega)
  have st1 := dig_start U (L / 4294967296) Y (Y / 4294967296) (Y % 4294967296) hYs (by omega) (by omega) u0 (by omega) (by omega)
  have rest := dig_rest U (L / 4294967296) Y _ (by omega) (by omega) rfl
  have fq := fin_quot U L Y (twoW hi lo) y s hY.symm (by omega) u0 lt (by omega) L0 (by omega) tot
  have fr := fin_rest U L Y (twoW hi lo) y s hY.symm (by omega) (by omega) tot
  generalize hR1 : (U * 4294967296 + L / 4294967296) % Y = R1 at *
  have dg2 := Dig.mk' R1 (L % 4294967296) Y (Y / 4294967296) (Y % 4294967296) hYs (by omega) (by omega) (by omega) r0 r1 (by omega) (by omega)
  have st2 := dig_start R1 (L % 4294967296) Y (Y / 4294967296) (Y % 4294967296) hYs (by omega) (by omega) r0 (by omega) (by omega)
  have q0 : 0 ≤ R1 / (Y / 4294967296) * (Y / 4294967296) := Int.mul_nonneg (Int.ediv_nonneg r0 (by omega)) (by omega)
  have q1 : R1 / (Y / 4294967296) * (Y / 4294967296) ≤ R1 := Int.ediv_mul_le _ (by omega)
  have q2 : R1 % (Y / 4294967296) = R1 - R1 / (Y / 4294967296) * (Y / 4294967296) := by
    have := Int.emod_add_mul_ediv R1 (Y / 4294967296); rw [Int.mul_comm] at this; omega
  have q3 := Int.emod_nonneg R1 (show Y / 4294967296 ≠ 0 by omega)
  have q4 := Int.emod_lt_of_pos R1 (show 0 < Y / 4294967296 by omega)
  have q5 : R1 / (Y / 4294967296) ≤ R1 := Int.ediv_le_self _ r0
  exact div64_core hi lo y s Y (Y / 4294967296) (Y % 4294967296) H G U L (L / 4294967296) (L % 4294967296) (U / (Y / 4294967296)) (U - U / (Y / 4294967296) * (Y / 4294967296)) (R1 / (Y / 4294967296)) (R1 - R1 / (Y / 4294967296) * (Y / 4294967296))
    ((U * 4294967296 + L / 4294967296) / Y) R1 ((R1 * 4294967296 + L % 4294967296) / Y) _ _ w h0 h1 h2 h3 h4 s0 s1 lz' (by rw [hY]; omega) (by rw [hY]; omega) (by rw [hH]; omega) (by rw [hH]; omega)
    hY rfl lt0 hH hG (by rw [or]) (by rw [IntKind.wrap_u64]; exact hLL) rfl lt1 rfl rfl a0 u0 (by omega) (by omega) (by omega) (by omega) (by omega) (by omega) (by omega) (by omega) (by omega) (by omega) p0 p1
    rest r0 (by omega) rfl rfl q0 q1 dg2 ⟨st2, Int.ediv_nonneg r0 (by omega), by omega, by omega, by omega, by show _ = _; omega⟩
    dg1 ⟨st1, Int.ediv_nonneg u0 (by omega), by omega, by omega, by omega, by show _ = _; omega⟩ fq fr

set_option maxHeartbeats 1000000 in
set_option maxRecDepth 100000 in
theorem div64_zero (lo y : Int) (w : World) (h1 : 0 < y) (h2 : 0 ≤ lo) (h3 : lo ≤ 18446744073709551615) (h4 : y ≤ 140737488355327) :
    Calls Tryz.prog 97 #[.int .u64 0, .int .u64 lo, .int .u64 y] w fun e w' => e = .returned (.tuple #[.int .u64 (lo / y), .int .u64 (lo % y)]) ∧ ∃ n, w' = w.drewN n := by
  go_enter Tryz.func97, Tryz.ntmps97
  go_wp2_with fail
  go_quiet (fail)
  go_wp2
  go_ret2
  exact ⟨rfl, _, rfl⟩

theorem div64_any (hi lo y : Int) (w : World) (h0 : 0 ≤ hi) (h1 : hi < y) (h2 : 0 ≤ lo) (h3 : lo ≤ 18446744073709551615) (h4 : y ≤ 140737488355327) :
    Calls Tryz.prog 97 #[.int .u64 hi, .int .u64 lo, .int .u64 y] w fun e w' => e = .returned (.tuple #[.int .u64 (twoW hi lo / y), .int .u64 (twoW hi lo % y)]) ∧ ∃ n, w' = w.drewN n := by
  by_cases hz : hi = 0
  · subst hz
    rw [show twoW 0 lo = lo by unfold twoW; omega]
    exact div64_zero lo y w (by omega) h2 h3 h4
  · exact (div64_pos hi lo y w (by omega) h1 h2 h3 h4).mono fun _ _ h => ⟨h.1, 0, h.2⟩

end Go.Proofs.YtmdpdpbkbakidaaGreat

/- Package proportion: what Of, Up and Compare return, for every input. -/
namespace Go.Proofs.YtmdpdpbkbakidaaGreat
open Go.RowKit

theorem amounts_any (b off len cap : Nat) (zs : List Int) (w : World) (hz : len = zs.length) (hbig : len ≤ 9223372036854775807) (hc : ∀ j, j < zs.length → w.cell? ⟨b, off + j, none⟩ = some (.int .i64 (zs.getD j 0))) :
    Calls Tryz.prog 95 #[.slice (some ⟨b, off, none⟩) len cap] w fun e w' => e = .returned (.bool (zs.all isAm)) ∧ w' = w := by
  have HC := Lib.hid hc; clear hc
  have HZ := Lib.hid hz; clear hz
  go_enter Tryz.func95, Tryz.ntmps95
  go_wp2
  go_loop [7] (fun i => ∃ k : Nat, k ≤ len ∧ i = .int .i64 k ∧ (zs.take k).all isAm = true) (fun i => len - (intOf i).toNat)
  case atStart => exact ⟨0, Nat.zero_le _, rfl, by simp⟩
  case round =>
    obtain ⟨k, hk, rfl, hall⟩ := hrel
    have HA := Lib.hid hall; clear hall
    by_cases hlt : k < len
    · have hkz : k < zs.length := by rw [← HZ.out]; exact hlt
      have hcell : w.cell? ⟨b, off + k, none⟩ = some (.int .i64 (zs.getD k 0)) := HC.out k hkz
      have HS := Lib.hid (all_take_succ zs k hkz)
      have HF := Lib.hid (all_false_at zs k hkz)
      generalize zs.getD k 0 = z at *
      by_cases hb : 0 ≤ z ∧ z ≤ 128849018880000
      · have HB := Lib.hid ((isAm_iff z).2 hb)
        obtain ⟨hb1, hb2⟩ := hb
        clear hkz
        go_wp2
        go_round
        case rel => exact ⟨k + 1, by omega, by go_num, by rw [HS.out, HA.out, HB.out]; rfl⟩
        case measure => simp [intOf]; omega
      · have HB := Lib.hid (HF.out (by rw [isAm_not]; omega))
        by_cases hz0 : z < 0
        · clear hb hkz
          go_wp2
          go_ret
          rw [HB.out]; exact ⟨rfl, rfl⟩
        · have hz1 : 128849018880000 < z := by omega
          clear hb hkz
          go_wp2
          go_ret
          rw [HB.out]; exact ⟨rfl, rfl⟩
    · have HT : RowKit.Hid (zs.take k = zs) := by
        show zs.take k = zs
        exact List.take_of_length_le (by have := HZ.out; omega)
      go_wp2
      go_ret
      rw [← HA.out, HT.out]; exact ⟨rfl, rfl⟩

theorem mul64_int (x y : Int) (w : World) (hx0 : 0 ≤ x) (hx : x ≤ 9223372036854775807) (hy0 : 0 ≤ y) (hy : y ≤ 9223372036854775807) :
    Calls Tryz.prog 106 #[.int .u64 x, .int .u64 y] w fun e w' => e = .returned (.tuple #[.int .u64 (hiW (x * y)), .int .u64 (loW (x * y))]) ∧ w = w' := by
  obtain ⟨A, rfl⟩ := Int.eq_ofNat_of_zero_le hx0
  obtain ⟨B, rfl⟩ := Int.eq_ofNat_of_zero_le hy0
  refine (Tryz.bits_Mul64 A B (by omega) (by omega) w).mono fun e w' h => ⟨?_, h.2.symm⟩
  rw [h.1, hiW, loW]; simp

theorem multiply_any (a b : Int) (w : World) (ha0 : 0 ≤ a) (ha : a ≤ 9223372036854775807) (hb0 : 0 ≤ b) (hb : b ≤ 9223372036854775807) :
    Calls Tryz.prog 96 #[.int .i64 a, .int .i64 b] w fun e w' => e = .returned (.agg #[.int .u64 (hiW (a * b)), .int .u64 (loW (a * b))]) ∧ Below w.heap.size w w' := by
  go_enter Tryz.func96, Tryz.ntmps96
  go_wp2_with (go_at_call 106; refine (mul64_int a b _ ha0 ha hb0 hb).mono ?_; rintro e w' ⟨rfl, rfl⟩)
  go_returns
  exact ⟨rfl, by go_grown⟩

theorem amounts_row (zs : List Int) (vs : List Value) (w : World) (hv : vs = zs.map (Value.int .i64)) (hl : zs.length ≤ 1000) (r : Bool) (h : zs.all isAm = r) :
    Calls Tryz.prog 95 #[.slice (some ⟨w.heap.size, 0, none⟩) zs.length zs.length] (w.alloc (.cells vs.toArray 3)) fun e w' => e = .returned (.bool r) ∧ (w.alloc (.cells vs.toArray 3)) = w' := by
  refine (amounts_any _ 0 zs.length zs.length zs _ rfl (by omega) ?_).mono fun e w' g => ⟨by rw [g.1, h], g.2.symm⟩
  intro j hj
  subst hv
  rw [World.cell?_alloc_new]
  simp [List.getD, List.getElem?_eq_getElem hj]

theorem amounts1 (a : Int) (w : World) (r : Bool) (h : isAm a = r) :
    Calls Tryz.prog 95 #[.slice (some ⟨w.heap.size, 0, none⟩) 1 1] (w.alloc (.cells #[.int .i64 a] 3)) fun e w' => e = .returned (.bool r) ∧ (w.alloc (.cells #[.int .i64 a] 3)) = w' :=
  amounts_row [a] [.int .i64 a] w rfl (by simp) r (by simpa using h)
theorem amounts2 (a b : Int) (w : World) (r : Bool) (h : (isAm a && isAm b) = r) :
    Calls Tryz.prog 95 #[.slice (some ⟨w.heap.size, 0, none⟩) 2 2] (w.alloc (.cells #[.int .i64 a, .int .i64 b] 3)) fun e w' => e = .returned (.bool r) ∧ (w.alloc (.cells #[.int .i64 a, .int .i64 b] 3)) = w' :=
  amounts_row [a, b] [.int .i64 a, .int .i64 b] w rfl (by simp) r (by simpa using h)
theorem amounts3 (a b c : Int) (w : World) (r : Bool) (h : (isAm a && isAm b && isAm c) = r) :
    Calls Tryz.prog 95 #[.slice (some ⟨w.heap.size, 0, none⟩) 3 3] (w.alloc (.cells #[.int .i64 a, .int .i64 b, .int .i64 c] 3)) fun e w' => e = .returned (.bool r) ∧ (w.alloc (.cells #[.int .i64 a, .int .i64 b, .int .i64 c] 3)) = w' :=
  amounts_row [a, b, c] [.int .i64 a, .int .i64 b, .int .i64 c] w rfl (by simp) r (by simpa [Bool.and_assoc] using h)
theorem amounts4 (a b c d : Int) (w : World) (r : Bool) (h : (isAm a && isAm b && isAm c && isAm d) = r) :
    Calls Tryz.prog 95 #[.slice (some ⟨w.heap.size, 0, none⟩) 4 4] (w.alloc (.cells #[.int .i64 a, .int .i64 b, .int .i64 c, .int .i64 d] 3)) fun e w' => e = .returned (.bool r) ∧ (w.alloc (.cells #[.int .i64 a, .int .i64 b, .int .i64 c, .int .i64 d] 3)) = w' :=
  amounts_row [a, b, c, d] [.int .i64 a, .int .i64 b, .int .i64 c, .int .i64 d] w rfl (by simp) r (by simpa [Bool.and_assoc] using h)

theorem of_bad (a b c : Int) (w : World) (h : (isAm a && isAm b && isAm c) = false) :
    Calls Tryz.prog 78 #[.int .i64 a, .int .i64 b, .int .i64 c] w fun e w' => e = .returned (.tuple #[.int .i64 0, .int .i64 0, .int .i64 2]) ∧ Below w.heap.size w w' := by
  have H := Lib.hid h; clear h
  go_enter Tryz.func78, Tryz.ntmps78
  go_wp2_with (go_at_call 95; refine (amounts3 _ _ _ _ _ H.out).mono ?_; rintro e w' ⟨rfl, rfl⟩)
  go_returns
  exact ⟨rfl, by go_grown⟩

theorem of_zero (a b : Int) (w : World) (h : (isAm a && isAm b && isAm 0) = true) :
    Calls Tryz.prog 78 #[.int .i64 a, .int .i64 b, .int .i64 0] w fun e w' => e = .returned (.tuple #[.int .i64 0, .int .i64 0, .int .i64 16]) ∧ Below w.heap.size w w' := by
  have H := Lib.hid h; clear h
  go_enter Tryz.func78, Tryz.ntmps78
  go_wp2_with (go_at_call 95; refine (amounts3 _ _ _ _ _ H.out).mono ?_; rintro e w' ⟨rfl, rfl⟩)
  go_returns
  exact ⟨rfl, by go_grown⟩

theorem of_ok (a b c Q R : Int) (w : World) (h : (isAm a && isAm b && isAm c) = true) (hc : 1 ≤ c) (hQ : Hid (a * b / c = Q)) (hR : Hid (a * b % c = R)) (hq : Q ≤ 128849018880000) :
    Calls Tryz.prog 78 #[.int .i64 a, .int .i64 b, .int .i64 c] w fun e w' => e = .returned (.tuple #[.int .i64 Q, .int .i64 R, .int .i64 0]) ∧ Below w.heap.size w w' := by
  have h' := h
  simp only [Bool.and_eq_true, isAm_iff] at h'
  obtain ⟨⟨⟨a0, a1⟩, b0, b1⟩, c0, c1⟩ := h'
  have H := Lib.hid h; clear h
  have p0 : 0 ≤ a * b := Int.mul_nonneg a0 b0
  have q0 : 0 ≤ Q := by rw [← hQ.out]; exact Int.ediv_nonneg p0 c0
  have r0 : 0 ≤ R := by rw [← hR.out]; exact Int.emod_nonneg _ (by omega)
  have r1 : R < c := by rw [← hR.out]; exact Int.emod_lt_of_pos _ (by omega)
  have k : hiW (a * b) < c := by
    rcases Int.lt_or_le (hiW (a * b)) c with k | k
    · exact k
    · have := hiW_ge _ _ k (by omega); rw [hQ.out] at this; omega
  have k0 := hiW_nonneg _ p0
  clear p0
  go_enter Tryz.func78, Tryz.ntmps78
  go_wp2_with (go_at_call 95; refine (amounts3 _ _ _ _ _ H.out).mono ?_; rintro e w' ⟨rfl, rfl⟩)
  refine (multiply_any a b _ a0 (by omega) b0 (by omega)).mono ?_
  rintro e w1 ⟨rfl, hb1⟩
  go_wp2_with fail
  refine (div64_any (hiW (a * b)) (loW (a * b)) c _ k0 k (loW_nonneg _) (loW_le _) (by omega)).mono ?_
  rw [twoW_split, hQ.out, hR.out]
  rintro e w2 ⟨rfl, n, rfl⟩
  go_wp2
  go_returns
  exact ⟨rfl, bel_trans (bel_alloc hb1) (bel_alloc (bel_drewN _ _))⟩

theorem of_big (a b c Q R : Int) (w : World) (h : (isAm a && isAm b && isAm c) = true) (hc : 1 ≤ c) (hQ : Hid (a * b / c = Q)) (hR : Hid (a * b % c = R)) (hq : 128849018880000 < Q) :
    Calls Tryz.prog 78 #[.int .i64 a, .int .i64 b, .int .i64 c] w fun e w' => e = .returned (.tuple #[.int .i64 0, .int .i64 0, .int .i64 15]) ∧ Below w.heap.size w w' := by
  have h' := h
  simp only [Bool.and_eq_true, isAm_iff] at h'
  obtain ⟨⟨⟨a0, a1⟩, b0, b1⟩, c0, c1⟩ := h'
  have H := Lib.hid h; clear h
  have p0 : 0 ≤ a * b := Int.mul_nonneg a0 b0
  have k0 := hiW_nonneg _ p0
  by_cases k : hiW (a * b) < c
  · have q1 : Q ≤ 18446744073709551615 := by
      rw [← hQ.out]
      have : a * b / c < 18446744073709551616 := by
        apply Int.ediv_lt_of_lt_mul (by omega)
        unfold hiW at k; omega
      omega
    have r0 : 0 ≤ R := by rw [← hR.out]; exact Int.emod_nonneg _ (by omega)
    have r1 : R < c := by rw [← hR.out]; exact Int.emod_lt_of_pos _ (by omega)
    clear p0
    go_enter Tryz.func78, Tryz.ntmps78
    go_wp2_with (go_at_call 95; refine (amounts3 _ _ _ _ _ H.out).mono ?_; rintro e w' ⟨rfl, rfl⟩)
    refine (multiply_any a b _ a0 (by omega) b0 (by omega)).mono ?_
    rintro e w1 ⟨rfl, hb1⟩
    go_wp2_with fail
    refine (div64_any (hiW (a * b)) (loW (a * b)) c _ k0 k (loW_nonneg _) (loW_le _) (by omega)).mono ?_
    rw [twoW_split, hQ.out, hR.out]
    rintro e w2 ⟨rfl, n, rfl⟩
    go_wp2
    go_returns
    exact ⟨rfl, bel_trans (bel_alloc hb1) (bel_alloc (bel_drewN _ _))⟩
  · clear p0
    go_enter Tryz.func78, Tryz.ntmps78
    go_wp2_with (go_at_call 95; refine (amounts3 _ _ _ _ _ H.out).mono ?_; rintro e w' ⟨rfl, rfl⟩)
    refine (multiply_any a b _ a0 (by omega) b0 (by omega)).mono ?_
    rintro e w1 ⟨rfl, hb1⟩
    go_wp2
    go_returns
    exact ⟨rfl, bel_trans (bel_alloc hb1) (bel_alloc (Below.refl _ _))⟩

/-- 'Of', whatever it is handed -/
theorem of_any (a b c : Int) (w : World) :
    Calls Tryz.prog 78 #[.int .i64 a, .int .i64 b, .int .i64 c] w fun e w' => e = .returned (.tuple #[.int .i64 (ofQ a b c), .int .i64 (ofR a b c), .int .i64 (ofE a b c)]) ∧ Below w.heap.size w w' := by
  unfold ofQ ofR
  cases h : (isAm a && isAm b && isAm c) with
  | false =>
    have e : ofE a b c = 2 := by unfold ofE; rw [h]; rfl
    rw [e]; exact of_bad a b c w h
  | true =>
    by_cases hc : c = 0
    · subst hc
      have e : ofE a b 0 = 16 := by unfold ofE; rw [h]; rfl
      rw [e]; exact of_zero a b w h
    · have h' := h
      simp only [Bool.and_eq_true, isAm_iff] at h'
      by_cases hq : a * b / c ≤ 128849018880000
      · have e : ofE a b c = 0 := by unfold ofE; rw [h, if_pos rfl, if_neg hc, if_pos hq]
        rw [e]; exact of_ok a b c _ _ w h (by omega) rfl rfl hq
      · have e : ofE a b c = 15 := by unfold ofE; rw [h, if_pos rfl, if_neg hc, if_neg hq]
        rw [e]; exact of_big a b c _ _ w h (by omega) rfl rfl (by omega)

end Go.Proofs.YtmdpdpbkbakidaaGreat

/- Package proportion: Up. -/
namespace Go.Proofs.YtmdpdpbkbakidaaGreat
open Go.RowKit


theorem up_walk (a b c q r x : Int) (w : World) (q0 : 0 ≤ q) (q1 : q ≤ 128849018880000) (hof : Hid (∀ W, Calls Tryz.prog 78 #[.int .i64 a, .int .i64 b, .int .i64 c] W fun e w' => e = .returned (.tuple #[.int .i64 q, .int .i64 r, .int .i64 x]) ∧ Below W.heap.size W w')) :
    Calls Tryz.prog 79 #[.int .i64 a, .int .i64 b, .int .i64 c] w fun e w' => e = .returned (.tuple #[.int .i64 (upQ q r x), .int .i64 (upE q r x)]) ∧ Below w.heap.size w w' := by
  go_enter Tryz.func79, Tryz.ntmps79
  go_wp2_with fail
  refine (hof.out _).mono ?_
  rintro e w1 ⟨rfl, hb1⟩
  go_wp2
  all_goals
    go_returns
    refine ⟨ret_two ?_ ?_, hb1⟩
  all_goals (simp only [upQ, upE]; grind)

theorem up_any (a b c : Int) (w : World) :
    Calls Tryz.prog 79 #[.int .i64 a, .int .i64 b, .int .i64 c] w fun e w' => e = .returned (.tuple #[.int .i64 (upQ (ofQ a b c) (ofR a b c) (ofE a b c)), .int .i64 (upE (ofQ a b c) (ofR a b c) (ofE a b c))]) ∧ Below w.heap.size w w' :=
  up_walk a b c _ _ _ w (ofQ_bd a b c).1 (ofQ_bd a b c).2 (fun W => of_any a b c W)

end Go.Proofs.YtmdpdpbkbakidaaGreat

/- Package profile: distances, the radius on a piece, At. -/
namespace Go.Proofs.YtmdpdpbkbakidaaGreat
open Go.RowKit

theorem cdv_of {n d : Int} (h : 0 < d) : cdv n d = n / d + (if 0 < n % d then 1 else 0) := by
  have h1 := Int.emod_add_mul_ediv n d
  have h2 := Int.emod_lt_of_pos n h
  have h3 := Int.emod_nonneg n (show d ≠ 0 by omega)
  rw [Int.mul_comm] at h1
  apply Int.le_antisymm
  · rw [cl_iff _ _ _ h, Int.add_mul]
    by_cases g : 0 < n % d
    · rw [if_pos g]; omega
    · rw [if_neg g]; omega
  · by_cases g : 0 < n % d
    · rw [if_pos g]
      have : ¬ cdv n d ≤ n / d := fun hh => by
        rw [cl_iff _ _ _ h] at hh
        omega
      omega
    · rw [if_neg g]
      have := (fl_cl n d h).1
      omega
theorem cdv_add (m p d : Int) (h : 0 < d) : cdv (m + p * d) d = cdv m d + p := by
  unfold cdv
  rw [show m + p * d + d - 1 = m + d - 1 + p * d by omega]
  exact Int.add_mul_ediv_right _ _ (by omega)
theorem ln_up {a p b q x : Int} (hab : a < b) : lnL a p b q x = p + (q - p) * (x - a) / (b - a) ∧ lnH a p b q x = p + cdv ((q - p) * (x - a)) (b - a) := by
  unfold lnL lnH lnN
  rw [Int.add_comm (p * (b - a)), Int.add_mul_ediv_right _ _ (by omega), cdv_add _ _ _ (by omega)]
  omega
theorem ln_dn {a p b q x : Int} (hab : a < b) : lnL a p b q x = q + (p - q) * (b - x) / (b - a) ∧ lnH a p b q x = q + cdv ((p - q) * (b - x)) (b - a) := by
  have e : lnN a p b q x = (p - q) * (b - x) + q * (b - a) := by unfold lnN; grind
  unfold lnL lnH
  rw [e, Int.add_mul_ediv_right _ _ (by omega), cdv_add _ _ _ (by omega)]
  omega
theorem prop_facts {a b c : Int} (ha : 0 ≤ a ∧ a ≤ 100000) (hb : 0 ≤ b ∧ b ≤ 100000) (hc : 1 ≤ c ∧ c ≤ 100000) :
    ofE a b c = 0 ∧ ofQ a b c = a * b / c ∧ upQ (ofQ a b c) (ofR a b c) (ofE a b c) = cdv (a * b) c ∧ upE (ofQ a b c) (ofR a b c) (ofE a b c) = 0 := by
  have m0 : 0 ≤ a * b := Int.mul_nonneg ha.1 hb.1
  have m1 : a * b ≤ 100000 * 100000 := Int.mul_le_mul ha.2 hb.2 hb.1 (by omega)
  have q1 : a * b / c ≤ a * b := Int.ediv_le_self _ m0
  have i : (isAm a && isAm b && isAm c) = true := by
    simp only [isAm, Bool.and_eq_true, decide_eq_true_eq]
    omega
  have e : ofE a b c = 0 := by
    unfold ofE
    rw [if_pos i, if_neg (by omega), if_pos (by omega)]
  have eq : ofQ a b c = a * b / c := by unfold ofQ; rw [if_pos e]
  have er : ofR a b c = a * b % c := by unfold ofR; rw [if_pos e]
  have ue : upE (ofQ a b c) (ofR a b c) (ofE a b c) = 0 := by
    unfold upE
    rw [if_pos e, if_pos]
    rw [eq]
    split <;> omega
  refine ⟨e, eq, ?_, ue⟩
  unfold upQ
  rw [if_pos ue, eq, er, cdv_of (by omega)]

theorem dist_any (a b : Int) (w : World) (a0 : 0 ≤ a) (a1 : a ≤ 100000) (b0 : 0 ≤ b) (b1 : b ≤ 100000) :
    Calls Tryz.prog 77 #[.int .i64 a, .int .i64 b] w fun e w' => e = .returned (.int .i64 (max (a - b) (b - a))) ∧ w' = w := by
  have w1 : IntKind.i64.wrap (a - b) = a - b := wrap_in _ ⟨by omega, by omega⟩
  have w2 : IntKind.i64.wrap (b - a) = b - a := wrap_in _ ⟨by omega, by omega⟩
  go_enter Tryz.func77, Tryz.ntmps77
  go_wp2
  go_ret
  exact ⟨rfl, rfl⟩

set_option maxRecDepth 100000 in
set_option maxHeartbeats 16000000 in
theorem at_up (a p b q x Q V : Int) (w : World) (a0 : 0 ≤ a) (ab : a < b) (b1 : b ≤ 100000) (p0 : 0 ≤ p) (p1 : p ≤ 100000) (q0 : 0 ≤ q) (pq : p ≤ q) (q1 : q ≤ 100000) (hQ0 : 0 ≤ Q) (hQ : Q ≤ 100000) (hV0 : 0 ≤ V) (hV : V ≤ 100000)
    (x0 : a ≤ x) (x1 : x ≤ b) (m1 : max (a - x) (x - a) = (x - a)) (m2 : max (a - b) (b - a) = b - a)
    (HD : Hid (∀ u v W, (0 ≤ u ∧ u ≤ 100000 ∧ 0 ≤ v ∧ v ≤ 100000) → Calls Tryz.prog 77 #[.int .i64 u, .int .i64 v] W fun e w' => e = .returned (.int .i64 (max (u - v) (v - u))) ∧ w' = W))
    (H3 : Hid (∀ W, Calls Tryz.prog 78 #[.int .i64 (q - p), .int .i64 (x - a), .int .i64 (b - a)] W fun e w' => ∃ R, e = .returned (.tuple #[.int .i64 Q, .int .i64 R, .int .i64 0]) ∧ Below W.heap.size W w'))
    (H4 : Hid (∀ W, Calls Tryz.prog 79 #[.int .i64 (q - p), .int .i64 (x - a), .int .i64 (b - a)] W fun e w' => e = .returned (.tuple #[.int .i64 V, .int .i64 0]) ∧ Below W.heap.size W w')) :
    Calls Tryz.prog 61 #[.agg #[.int .i64 a, .int .i64 p, .int .i64 b, .int .i64 q], .int .i64 x] w fun e w' => e = .returned (.agg #[.int .i64 (p + Q), .int .i64 (p + V)]) ∧ Below w.heap.size w w' := by
  have w1 : IntKind.i64.wrap (q - p) = (q - p) := wrap_in _ ⟨by omega, by omega⟩
  have w2 : IntKind.i64.wrap (p + Q) = p + Q := wrap_in _ ⟨by omega, by omega⟩
  have w3 : IntKind.i64.wrap (p + V) = p + V := wrap_in _ ⟨by omega, by omega⟩
  go_enter Tryz.func61, Tryz.ntmps61
  go_wp2_with fail
  go_region
  · have TR : Hid (Two (w.heap.size + 1) ((((w.alloc (.cells #[.int .i64 a, .int .i64 p, .int .i64 b, .int .i64 q] 81)).alloc (.cells #[.int .i64 0, .int .i64 0] 29)).alloc (.cells #[.int .i64 a, .int .i64 p] 43)).alloc (.cells #[.int .i64 b, .int .i64 q] 43)) (.int .i64 0) (.int .i64 0)) := by
      have := ((Two.new (w.alloc (.cells #[.int .i64 a, .int .i64 p, .int .i64 b, .int .i64 q] 81)) (.int .i64 0) (.int .i64 0) 29).alloc (.cells #[.int .i64 a, .int .i64 p] 43)).alloc (.cells #[.int .i64 b, .int .i64 q] 43)
      rwa [World.size_alloc] at this
    have T1 : Hid (Two (w.heap.size + 1 + 1) ((((w.alloc (.cells #[.int .i64 a, .int .i64 p, .int .i64 b, .int .i64 q] 81)).alloc (.cells #[.int .i64 0, .int .i64 0] 29)).alloc (.cells #[.int .i64 a, .int .i64 p] 43)).alloc (.cells #[.int .i64 b, .int .i64 q] 43)) (.int .i64 a) (.int .i64 p)) := by
      have := (Two.new ((w.alloc (.cells #[.int .i64 a, .int .i64 p, .int .i64 b, .int .i64 q] 81)).alloc (.cells #[.int .i64 0, .int .i64 0] 29)) (.int .i64 a) (.int .i64 p) 43).alloc (.cells #[.int .i64 b, .int .i64 q] 43)
      rwa [World.size_alloc, World.size_alloc] at this
    have T2 : Hid (Two (w.heap.size + 1 + 1 + 1) ((((w.alloc (.cells #[.int .i64 a, .int .i64 p, .int .i64 b, .int .i64 q] 81)).alloc (.cells #[.int .i64 0, .int .i64 0] 29)).alloc (.cells #[.int .i64 a, .int .i64 p] 43)).alloc (.cells #[.int .i64 b, .int .i64 q] 43)) (.int .i64 b) (.int .i64 q)) := by
      have := Two.new (((w.alloc (.cells #[.int .i64 a, .int .i64 p, .int .i64 b, .int .i64 q] 81)).alloc (.cells #[.int .i64 0, .int .i64 0] 29)).alloc (.cells #[.int .i64 a, .int .i64 p] 43)) (.int .i64 b) (.int .i64 q) 43
      rwa [World.size_alloc, World.size_alloc, World.size_alloc] at this
    have HB : Hid (Below w.heap.size w ((((w.alloc (.cells #[.int .i64 a, .int .i64 p, .int .i64 b, .int .i64 q] 81)).alloc (.cells #[.int .i64 0, .int .i64 0] 29)).alloc (.cells #[.int .i64 a, .int .i64 p] 43)).alloc (.cells #[.int .i64 b, .int .i64 q] 43))) := bel_alloc (bel_alloc (bel_alloc (bel_alloc (Below.refl _ _))))
    replace TR := Lib.hid (TR.out.below (bel_drew _))
    replace T1 := Lib.hid (T1.out.below (bel_drew _))
    replace T2 := Lib.hid (T2.out.below (bel_drew _))
    replace HB := Lib.hid (bel_trans HB.out (bel_drew _))
    generalize ((((w.alloc (.cells #[.int .i64 a, .int .i64 p, .int .i64 b, .int .i64 q] 81)).alloc (.cells #[.int .i64 0, .int .i64 0] 29)).alloc (.cells #[.int .i64 a, .int .i64 p] 43)).alloc (.cells #[.int .i64 b, .int .i64 q] 43)).drew = wa at *
    obtain ⟨t0, t1, t2, t3, t4⟩ := T1.out
    obtain ⟨s0, s1, s2, s3, s4⟩ := T2.out
    go_wp2_with fail
    go_quiet ((go_at_call 77; refine Calls.quiet_of_same (HD.out _ _ _ ⟨by omega, by omega, by omega, by omega⟩)))
    replace TR := Lib.hid (TR.out.below (bel_drewN _ nq))
    replace T1 := Lib.hid (T1.out.below (bel_drewN _ nq))
    replace HB := Lib.hid (bel_trans HB.out (bel_drewN _ nq))
    generalize wa.drewN nq = wb at *
    clear t0 t1 t2 t3 t4 s0 s1 s2 s3 s4
    go_wp2_with fail
    refine (H3.out _).mono ?_
    rintro e w4 ⟨R, rfl, h1⟩
    replace TR := Lib.hid (TR.out.below h1)
    replace T1 := Lib.hid (T1.out.below h1)
    replace HB := Lib.hid (bel_trans HB.out h1); clear h1
    go_wp2_with fail
    refine (H4.out _).mono ?_
    rintro e w5 ⟨rfl, h1⟩
    replace TR := Lib.hid (TR.out.below h1)
    replace T1 := Lib.hid (T1.out.below h1)
    replace HB := Lib.hid (bel_trans HB.out h1); clear h1
    obtain ⟨t0, t1, _, _, _⟩ := T1.out
    obtain ⟨r0, r1, r2, r3, _⟩ := TR.out
    go_wp2
    obtain ⟨z0, z1⟩ := two_read w5 (w.heap.size + 1) (.int .i64 (p + Q)) (.int .i64 (p + V)) r0 r1
    refine bodyPost_ret (v := .agg #[.int .i64 (p + Q), .int .i64 (p + V)]) (by simp [results, Tryz.results61, go_sem, z0, z1]) rfl ?_
    exact ⟨rfl, (HB.out.setCell (p := ⟨w.heap.size + 1, 0, none⟩) (Nat.le_succ _) _).setCell (p := ⟨w.heap.size + 1, 1, none⟩) (Nat.le_succ _) _⟩
  · have TR : Hid (Two (w.heap.size + 1) ((((w.alloc (.cells #[.int .i64 a, .int .i64 p, .int .i64 b, .int .i64 q] 81)).alloc (.cells #[.int .i64 0, .int .i64 0] 29)).alloc (.cells #[.int .i64 b, .int .i64 q] 43)).alloc (.cells #[.int .i64 a, .int .i64 p] 43)) (.int .i64 0) (.int .i64 0)) := by
      have := ((Two.new (w.alloc (.cells #[.int .i64 a, .int .i64 p, .int .i64 b, .int .i64 q] 81)) (.int .i64 0) (.int .i64 0) 29).alloc (.cells #[.int .i64 b, .int .i64 q] 43)).alloc (.cells #[.int .i64 a, .int .i64 p] 43)
      rwa [World.size_alloc] at this
    have T1 : Hid (Two (w.heap.size + 1 + 1) ((((w.alloc (.cells #[.int .i64 a, .int .i64 p, .int .i64 b, .int .i64 q] 81)).alloc (.cells #[.int .i64 0, .int .i64 0] 29)).alloc (.cells #[.int .i64 b, .int .i64 q] 43)).alloc (.cells #[.int .i64 a, .int .i64 p] 43)) (.int .i64 b) (.int .i64 q)) := by
      have := (Two.new ((w.alloc (.cells #[.int .i64 a, .int .i64 p, .int .i64 b, .int .i64 q] 81)).alloc (.cells #[.int .i64 0, .int .i64 0] 29)) (.int .i64 b) (.int .i64 q) 43).alloc (.cells #[.int .i64 a, .int .i64 p] 43)
      rwa [World.size_alloc, World.size_alloc] at this
    have T2 : Hid (Two (w.heap.size + 1 + 1 + 1) ((((w.alloc (.cells #[.int .i64 a, .int .i64 p, .int .i64 b, .int .i64 q] 81)).alloc (.cells #[.int .i64 0, .int .i64 0] 29)).alloc (.cells #[.int .i64 b, .int .i64 q] 43)).alloc (.cells #[.int .i64 a, .int .i64 p] 43)) (.int .i64 a) (.int .i64 p)) := by
      have := Two.new (((w.alloc (.cells #[.int .i64 a, .int .i64 p, .int .i64 b, .int .i64 q] 81)).alloc (.cells #[.int .i64 0, .int .i64 0] 29)).alloc (.cells #[.int .i64 b, .int .i64 q] 43)) (.int .i64 a) (.int .i64 p) 43
      rwa [World.size_alloc, World.size_alloc, World.size_alloc] at this
    have HB : Hid (Below w.heap.size w ((((w.alloc (.cells #[.int .i64 a, .int .i64 p, .int .i64 b, .int .i64 q] 81)).alloc (.cells #[.int .i64 0, .int .i64 0] 29)).alloc (.cells #[.int .i64 b, .int .i64 q] 43)).alloc (.cells #[.int .i64 a, .int .i64 p] 43))) := bel_alloc (bel_alloc (bel_alloc (bel_alloc (Below.refl _ _))))
    replace TR := Lib.hid (TR.out.below (bel_drew _))
    replace T1 := Lib.hid (T1.out.below (bel_drew _))
    replace T2 := Lib.hid (T2.out.below (bel_drew _))
    replace HB := Lib.hid (bel_trans HB.out (bel_drew _))
    generalize ((((w.alloc (.cells #[.int .i64 a, .int .i64 p, .int .i64 b, .int .i64 q] 81)).alloc (.cells #[.int .i64 0, .int .i64 0] 29)).alloc (.cells #[.int .i64 b, .int .i64 q] 43)).alloc (.cells #[.int .i64 a, .int .i64 p] 43)).drew = wa at *
    obtain ⟨t0, t1, t2, t3, t4⟩ := T1.out
    obtain ⟨s0, s1, s2, s3, s4⟩ := T2.out
    go_wp2_with fail
    go_quiet ((go_at_call 77; refine Calls.quiet_of_same (HD.out _ _ _ ⟨by omega, by omega, by omega, by omega⟩)))
    replace TR := Lib.hid (TR.out.below (bel_drewN _ nq))
    replace T2 := Lib.hid (T2.out.below (bel_drewN _ nq))
    replace HB := Lib.hid (bel_trans HB.out (bel_drewN _ nq))
    generalize wa.drewN nq = wb at *
    clear t0 t1 t2 t3 t4 s0 s1 s2 s3 s4
    go_wp2_with fail
    refine (H3.out _).mono ?_
    rintro e w4 ⟨R, rfl, h1⟩
    replace TR := Lib.hid (TR.out.below h1)
    replace T2 := Lib.hid (T2.out.below h1)
    replace HB := Lib.hid (bel_trans HB.out h1); clear h1
    go_wp2_with fail
    refine (H4.out _).mono ?_
    rintro e w5 ⟨rfl, h1⟩
    replace TR := Lib.hid (TR.out.below h1)
    replace T2 := Lib.hid (T2.out.below h1)
    replace HB := Lib.hid (bel_trans HB.out h1); clear h1
    obtain ⟨t0, t1, _, _, _⟩ := T2.out
    obtain ⟨r0, r1, r2, r3, _⟩ := TR.out
    go_wp2
    obtain ⟨z0, z1⟩ := two_read w5 (w.heap.size + 1) (.int .i64 (p + Q)) (.int .i64 (p + V)) r0 r1
    refine bodyPost_ret (v := .agg #[.int .i64 (p + Q), .int .i64 (p + V)]) (by simp [results, Tryz.results61, go_sem, z0, z1]) rfl ?_
    exact ⟨rfl, (HB.out.setCell (p := ⟨w.heap.size + 1, 0, none⟩) (Nat.le_succ _) _).setCell (p := ⟨w.heap.size + 1, 1, none⟩) (Nat.le_succ _) _⟩
set_option maxRecDepth 100000 in
set_option maxHeartbeats 16000000 in
theorem at_dn (a p b q x Q V : Int) (w : World) (a0 : 0 ≤ a) (ab : a < b) (b1 : b ≤ 100000) (p0 : 0 ≤ p) (p1 : p ≤ 100000) (q0 : 0 ≤ q) (pq : q < p) (q1 : q ≤ 100000) (hQ0 : 0 ≤ Q) (hQ : Q ≤ 100000) (hV0 : 0 ≤ V) (hV : V ≤ 100000)
    (x0 : a ≤ x) (x1 : x ≤ b) (m1 : max (b - x) (x - b) = (b - x)) (m2 : max (b - a) (a - b) = b - a)
    (HD : Hid (∀ u v W, (0 ≤ u ∧ u ≤ 100000 ∧ 0 ≤ v ∧ v ≤ 100000) → Calls Tryz.prog 77 #[.int .i64 u, .int .i64 v] W fun e w' => e = .returned (.int .i64 (max (u - v) (v - u))) ∧ w' = W))
    (H3 : Hid (∀ W, Calls Tryz.prog 78 #[.int .i64 (p - q), .int .i64 (b - x), .int .i64 (b - a)] W fun e w' => ∃ R, e = .returned (.tuple #[.int .i64 Q, .int .i64 R, .int .i64 0]) ∧ Below W.heap.size W w'))
    (H4 : Hid (∀ W, Calls Tryz.prog 79 #[.int .i64 (p - q), .int .i64 (b - x), .int .i64 (b - a)] W fun e w' => e = .returned (.tuple #[.int .i64 V, .int .i64 0]) ∧ Below W.heap.size W w')) :
    Calls Tryz.prog 61 #[.agg #[.int .i64 a, .int .i64 p, .int .i64 b, .int .i64 q], .int .i64 x] w fun e w' => e = .returned (.agg #[.int .i64 (q + Q), .int .i64 (q + V)]) ∧ Below w.heap.size w w' := by
  have w1 : IntKind.i64.wrap (p - q) = (p - q) := wrap_in _ ⟨by omega, by omega⟩
  have w2 : IntKind.i64.wrap (q + Q) = q + Q := wrap_in _ ⟨by omega, by omega⟩
  have w3 : IntKind.i64.wrap (q + V) = q + V := wrap_in _ ⟨by omega, by omega⟩
  go_enter Tryz.func61, Tryz.ntmps61
  go_wp2_with fail
  go_region
  · have TR : Hid (Two (w.heap.size + 1) ((((w.alloc (.cells #[.int .i64 a, .int .i64 p, .int .i64 b, .int .i64 q] 81)).alloc (.cells #[.int .i64 0, .int .i64 0] 29)).alloc (.cells #[.int .i64 a, .int .i64 p] 43)).alloc (.cells #[.int .i64 b, .int .i64 q] 43)) (.int .i64 0) (.int .i64 0)) := by
      have := ((Two.new (w.alloc (.cells #[.int .i64 a, .int .i64 p, .int .i64 b, .int .i64 q] 81)) (.int .i64 0) (.int .i64 0) 29).alloc (.cells #[.int .i64 a, .int .i64 p] 43)).alloc (.cells #[.int .i64 b, .int .i64 q] 43)
      rwa [World.size_alloc] at this
    have T1 : Hid (Two (w.heap.size + 1 + 1) ((((w.alloc (.cells #[.int .i64 a, .int .i64 p, .int .i64 b, .int .i64 q] 81)).alloc (.cells #[.int .i64 0, .int .i64 0] 29)).alloc (.cells #[.int .i64 a, .int .i64 p] 43)).alloc (.cells #[.int .i64 b, .int .i64 q] 43)) (.int .i64 a) (.int .i64 p)) := by
      have := (Two.new ((w.alloc (.cells #[.int .i64 a, .int .i64 p, .int .i64 b, .int .i64 q] 81)).alloc (.cells #[.int .i64 0, .int .i64 0] 29)) (.int .i64 a) (.int .i64 p) 43).alloc (.cells #[.int .i64 b, .int .i64 q] 43)
      rwa [World.size_alloc, World.size_alloc] at this
    have T2 : Hid (Two (w.heap.size + 1 + 1 + 1) ((((w.alloc (.cells #[.int .i64 a, .int .i64 p, .int .i64 b, .int .i64 q] 81)).alloc (.cells #[.int .i64 0, .int .i64 0] 29)).alloc (.cells #[.int .i64 a, .int .i64 p] 43)).alloc (.cells #[.int .i64 b, .int .i64 q] 43)) (.int .i64 b) (.int .i64 q)) := by
      have := Two.new (((w.alloc (.cells #[.int .i64 a, .int .i64 p, .int .i64 b, .int .i64 q] 81)).alloc (.cells #[.int .i64 0, .int .i64 0] 29)).alloc (.cells #[.int .i64 a, .int .i64 p] 43)) (.int .i64 b) (.int .i64 q) 43
      rwa [World.size_alloc, World.size_alloc, World.size_alloc] at this
    have HB : Hid (Below w.heap.size w ((((w.alloc (.cells #[.int .i64 a, .int .i64 p, .int .i64 b, .int .i64 q] 81)).alloc (.cells #[.int .i64 0, .int .i64 0] 29)).alloc (.cells #[.int .i64 a, .int .i64 p] 43)).alloc (.cells #[.int .i64 b, .int .i64 q] 43))) := bel_alloc (bel_alloc (bel_alloc (bel_alloc (Below.refl _ _))))
    replace TR := Lib.hid (TR.out.below (bel_drew _))
    replace T1 := Lib.hid (T1.out.below (bel_drew _))
    replace T2 := Lib.hid (T2.out.below (bel_drew _))
    replace HB := Lib.hid (bel_trans HB.out (bel_drew _))
    generalize ((((w.alloc (.cells #[.int .i64 a, .int .i64 p, .int .i64 b, .int .i64 q] 81)).alloc (.cells #[.int .i64 0, .int .i64 0] 29)).alloc (.cells #[.int .i64 a, .int .i64 p] 43)).alloc (.cells #[.int .i64 b, .int .i64 q] 43)).drew = wa at *
    obtain ⟨t0, t1, t2, t3, t4⟩ := T1.out
    obtain ⟨s0, s1, s2, s3, s4⟩ := T2.out
    go_wp2_with fail
    replace TR := Lib.hid ((((TR.out.apart (w.heap.size + 1 + 1) 0 (.int .i64 b) (by omega)).apart (w.heap.size + 1 + 1) 1 (.int .i64 q) (by omega)).apart (w.heap.size + 1 + 1 + 1) 0 (.int .i64 a) (by omega)).apart (w.heap.size + 1 + 1 + 1) 1 (.int .i64 p) (by omega))
    replace T1 := Lib.hid ((T1.out.both (.int .i64 b) (.int .i64 q)).apart (w.heap.size + 1 + 1 + 1) 0 (.int .i64 a) (by omega) |>.apart (w.heap.size + 1 + 1 + 1) 1 (.int .i64 p) (by omega))
    replace T2 := Lib.hid (((T2.out.apart (w.heap.size + 1 + 1) 0 (.int .i64 b) (by omega)).apart (w.heap.size + 1 + 1) 1 (.int .i64 q) (by omega)).both (.int .i64 a) (.int .i64 p))
    replace HB := Lib.hid ((((HB.out.setCell (p := ⟨w.heap.size + 1 + 1, 0, none⟩) (by show w.heap.size ≤ w.heap.size + 1 + 1; omega) (.int .i64 b)).setCell (p := ⟨w.heap.size + 1 + 1, 1, none⟩) (by show w.heap.size ≤ w.heap.size + 1 + 1; omega) (.int .i64 q)).setCell (p := ⟨w.heap.size + 1 + 1 + 1, 0, none⟩) (by show w.heap.size ≤ w.heap.size + 1 + 1 + 1; omega) (.int .i64 a)).setCell (p := ⟨w.heap.size + 1 + 1 + 1, 1, none⟩) (by show w.heap.size ≤ w.heap.size + 1 + 1 + 1; omega) (.int .i64 p))
    clear t0 t1 t2 t3 t4 s0 s1 s2 s3 s4
    generalize ((((wa.setCell ⟨w.heap.size + 1 + 1, 0, none⟩ (.int .i64 b)).setCell ⟨w.heap.size + 1 + 1, 1, none⟩ (.int .i64 q)).setCell ⟨w.heap.size + 1 + 1 + 1, 0, none⟩ (.int .i64 a)).setCell ⟨w.heap.size + 1 + 1 + 1, 1, none⟩ (.int .i64 p)) = wc at *
    obtain ⟨t0, t1, t2, t3, t4⟩ := T1.out
    obtain ⟨s0, s1, s2, s3, s4⟩ := T2.out
    go_quiet ((go_at_call 77; refine Calls.quiet_of_same (HD.out _ _ _ ⟨by omega, by omega, by omega, by omega⟩)))
    replace TR := Lib.hid (TR.out.below (bel_drewN _ nq))
    replace T1 := Lib.hid (T1.out.below (bel_drewN _ nq))
    replace HB := Lib.hid (bel_trans HB.out (bel_drewN _ nq))
    generalize wc.drewN nq = wb at *
    clear t0 t1 t2 t3 t4 s0 s1 s2 s3 s4
    go_wp2_with fail
    refine (H3.out _).mono ?_
    rintro e w4 ⟨R, rfl, h1⟩
    replace TR := Lib.hid (TR.out.below h1)
    replace T1 := Lib.hid (T1.out.below h1)
    replace HB := Lib.hid (bel_trans HB.out h1); clear h1
    go_wp2_with fail
    refine (H4.out _).mono ?_
    rintro e w5 ⟨rfl, h1⟩
    replace TR := Lib.hid (TR.out.below h1)
    replace T1 := Lib.hid (T1.out.below h1)
    replace HB := Lib.hid (bel_trans HB.out h1); clear h1
    obtain ⟨t0, t1, _, _, _⟩ := T1.out
    obtain ⟨r0, r1, r2, r3, _⟩ := TR.out
    go_wp2
    obtain ⟨z0, z1⟩ := two_read w5 (w.heap.size + 1) (.int .i64 (q + Q)) (.int .i64 (q + V)) r0 r1
    refine bodyPost_ret (v := .agg #[.int .i64 (q + Q), .int .i64 (q + V)]) (by simp [results, Tryz.results61, go_sem, z0, z1]) rfl ?_
    exact ⟨rfl, (HB.out.setCell (p := ⟨w.heap.size + 1, 0, none⟩) (Nat.le_succ _) _).setCell (p := ⟨w.heap.size + 1, 1, none⟩) (Nat.le_succ _) _⟩
  · have TR : Hid (Two (w.heap.size + 1) ((((w.alloc (.cells #[.int .i64 a, .int .i64 p, .int .i64 b, .int .i64 q] 81)).alloc (.cells #[.int .i64 0, .int .i64 0] 29)).alloc (.cells #[.int .i64 b, .int .i64 q] 43)).alloc (.cells #[.int .i64 a, .int .i64 p] 43)) (.int .i64 0) (.int .i64 0)) := by
      have := ((Two.new (w.alloc (.cells #[.int .i64 a, .int .i64 p, .int .i64 b, .int .i64 q] 81)) (.int .i64 0) (.int .i64 0) 29).alloc (.cells #[.int .i64 b, .int .i64 q] 43)).alloc (.cells #[.int .i64 a, .int .i64 p] 43)
      rwa [World.size_alloc] at this
    have T1 : Hid (Two (w.heap.size + 1 + 1) ((((w.alloc (.cells #[.int .i64 a, .int .i64 p, .int .i64 b, .int .i64 q] 81)).alloc (.cells #[.int .i64 0, .int .i64 0] 29)).alloc (.cells #[.int .i64 b, .int .i64 q] 43)).alloc (.cells #[.int .i64 a, .int .i64 p] 43)) (.int .i64 b) (.int .i64 q)) := by
      have := (Two.new ((w.alloc (.cells #[.int .i64 a, .int .i64 p, .int .i64 b, .int .i64 q] 81)).alloc (.cells #[.int .i64 0, .int .i64 0] 29)) (.int .i64 b) (.int .i64 q) 43).alloc (.cells #[.int .i64 a, .int .i64 p] 43)
      rwa [World.size_alloc, World.size_alloc] at this
    have T2 : Hid (Two (w.heap.size + 1 + 1 + 1) ((((w.alloc (.cells #[.int .i64 a, .int .i64 p, .int .i64 b, .int .i64 q] 81)).alloc (.cells #[.int .i64 0, .int .i64 0] 29)).alloc (.cells #[.int .i64 b, .int .i64 q] 43)).alloc (.cells #[.int .i64 a, .int .i64 p] 43)) (.int .i64 a) (.int .i64 p)) := by
      have := Two.new (((w.alloc (.cells #[.int .i64 a, .int .i64 p, .int .i64 b, .int .i64 q] 81)).alloc (.cells #[.int .i64 0, .int .i64 0] 29)).alloc (.cells #[.int .i64 b, .int .i64 q] 43)) (.int .i64 a) (.int .i64 p) 43
      rwa [World.size_alloc, World.size_alloc, World.size_alloc] at this
    have HB : Hid (Below w.heap.size w ((((w.alloc (.cells #[.int .i64 a, .int .i64 p, .int .i64 b, .int .i64 q] 81)).alloc (.cells #[.int .i64 0, .int .i64 0] 29)).alloc (.cells #[.int .i64 b, .int .i64 q] 43)).alloc (.cells #[.int .i64 a, .int .i64 p] 43))) := bel_alloc (bel_alloc (bel_alloc (bel_alloc (Below.refl _ _))))
    replace TR := Lib.hid (TR.out.below (bel_drew _))
    replace T1 := Lib.hid (T1.out.below (bel_drew _))
    replace T2 := Lib.hid (T2.out.below (bel_drew _))
    replace HB := Lib.hid (bel_trans HB.out (bel_drew _))
    generalize ((((w.alloc (.cells #[.int .i64 a, .int .i64 p, .int .i64 b, .int .i64 q] 81)).alloc (.cells #[.int .i64 0, .int .i64 0] 29)).alloc (.cells #[.int .i64 b, .int .i64 q] 43)).alloc (.cells #[.int .i64 a, .int .i64 p] 43)).drew = wa at *
    obtain ⟨t0, t1, t2, t3, t4⟩ := T1.out
    obtain ⟨s0, s1, s2, s3, s4⟩ := T2.out
    go_wp2_with fail
    replace TR := Lib.hid ((((TR.out.apart (w.heap.size + 1 + 1 + 1) 0 (.int .i64 b) (by omega)).apart (w.heap.size + 1 + 1 + 1) 1 (.int .i64 q) (by omega)).apart (w.heap.size + 1 + 1) 0 (.int .i64 a) (by omega)).apart (w.heap.size + 1 + 1) 1 (.int .i64 p) (by omega))
    replace T2 := Lib.hid ((T2.out.both (.int .i64 b) (.int .i64 q)).apart (w.heap.size + 1 + 1) 0 (.int .i64 a) (by omega) |>.apart (w.heap.size + 1 + 1) 1 (.int .i64 p) (by omega))
    replace T1 := Lib.hid (((T1.out.apart (w.heap.size + 1 + 1 + 1) 0 (.int .i64 b) (by omega)).apart (w.heap.size + 1 + 1 + 1) 1 (.int .i64 q) (by omega)).both (.int .i64 a) (.int .i64 p))
    replace HB := Lib.hid ((((HB.out.setCell (p := ⟨w.heap.size + 1 + 1 + 1, 0, none⟩) (by show w.heap.size ≤ w.heap.size + 1 + 1 + 1; omega) (.int .i64 b)).setCell (p := ⟨w.heap.size + 1 + 1 + 1, 1, none⟩) (by show w.heap.size ≤ w.heap.size + 1 + 1 + 1; omega) (.int .i64 q)).setCell (p := ⟨w.heap.size + 1 + 1, 0, none⟩) (by show w.heap.size ≤ w.heap.size + 1 + 1; omega) (.int .i64 a)).setCell (p := ⟨w.heap.size + 1 + 1, 1, none⟩) (by show w.heap.size ≤ w.heap.size + 1 + 1; omega) (.int .i64 p))
    clear t0 t1 t2 t3 t4 s0 s1 s2 s3 s4
    generalize ((((wa.setCell ⟨w.heap.size + 1 + 1 + 1, 0, none⟩ (.int .i64 b)).setCell ⟨w.heap.size + 1 + 1 + 1, 1, none⟩ (.int .i64 q)).setCell ⟨w.heap.size + 1 + 1, 0, none⟩ (.int .i64 a)).setCell ⟨w.heap.size + 1 + 1, 1, none⟩ (.int .i64 p)) = wc at *
    obtain ⟨t0, t1, t2, t3, t4⟩ := T1.out
    obtain ⟨s0, s1, s2, s3, s4⟩ := T2.out
    go_quiet ((go_at_call 77; refine Calls.quiet_of_same (HD.out _ _ _ ⟨by omega, by omega, by omega, by omega⟩)))
    replace TR := Lib.hid (TR.out.below (bel_drewN _ nq))
    replace T2 := Lib.hid (T2.out.below (bel_drewN _ nq))
    replace HB := Lib.hid (bel_trans HB.out (bel_drewN _ nq))
    generalize wc.drewN nq = wb at *
    clear t0 t1 t2 t3 t4 s0 s1 s2 s3 s4
    go_wp2_with fail
    refine (H3.out _).mono ?_
    rintro e w4 ⟨R, rfl, h1⟩
    replace TR := Lib.hid (TR.out.below h1)
    replace T2 := Lib.hid (T2.out.below h1)
    replace HB := Lib.hid (bel_trans HB.out h1); clear h1
    go_wp2_with fail
    refine (H4.out _).mono ?_
    rintro e w5 ⟨rfl, h1⟩
    replace TR := Lib.hid (TR.out.below h1)
    replace T2 := Lib.hid (T2.out.below h1)
    replace HB := Lib.hid (bel_trans HB.out h1); clear h1
    obtain ⟨t0, t1, _, _, _⟩ := T2.out
    obtain ⟨r0, r1, r2, r3, _⟩ := TR.out
    go_wp2
    obtain ⟨z0, z1⟩ := two_read w5 (w.heap.size + 1) (.int .i64 (q + Q)) (.int .i64 (q + V)) r0 r1
    refine bodyPost_ret (v := .agg #[.int .i64 (q + Q), .int .i64 (q + V)]) (by simp [results, Tryz.results61, go_sem, z0, z1]) rfl ?_
    exact ⟨rfl, (HB.out.setCell (p := ⟨w.heap.size + 1, 0, none⟩) (Nat.le_succ _) _).setCell (p := ⟨w.heap.size + 1, 1, none⟩) (Nat.le_succ _) _⟩
theorem at_any (a p b q x : Int) (w : World) (a0 : 0 ≤ a) (ab : a < b) (b1 : b ≤ 100000) (p0 : 0 ≤ p) (p1 : p ≤ 100000) (q0 : 0 ≤ q) (q1 : q ≤ 100000) (x0 : a ≤ x) (x1 : x ≤ b) :
    Calls Tryz.prog 61 #[.agg #[.int .i64 a, .int .i64 p, .int .i64 b, .int .i64 q], .int .i64 x] w fun e w' => e = .returned (.agg #[.int .i64 (lnL a p b q x), .int .i64 (lnH a p b q x)]) ∧ Below w.heap.size w w' := by
  have hd : 1 ≤ b - a ∧ b - a ≤ 100000 := by omega
  by_cases h : p ≤ q
  · obtain ⟨f1, f2, f3, f4⟩ := prop_facts (a := q - p) (b := x - a) (c := b - a) (by omega) (by omega) hd
    have bt := ln_between (p := p) (q := q) ab x0 x1
    have e := ln_up (p := p) (q := q) (x := x) ab
    have e1 : lnL a p b q x = lnN a p b q x / (b - a) := rfl
    have e2 : lnH a p b q x = cdv (lnN a p b q x) (b - a) := rfl
    have fc := fl_cl (lnN a p b q x) (b - a) (by omega)
    rw [e.1, e.2]
    refine at_up a p b q x _ _ w a0 ab b1 p0 p1 q0 h q1 (by omega) (by omega) (by omega) (by omega) x0 x1 (by omega) (by omega) (Lib.hid fun u v W h => dist_any u v W h.1 h.2.1 h.2.2.1 h.2.2.2) (fun W => ?_) (fun W => ?_)
    · have := of_any (q - p) (x - a) (b - a) W
      rw [f1, f2] at this
      exact this.mono fun _ _ g => ⟨_, g.1, g.2⟩
    · have := up_any (q - p) (x - a) (b - a) W
      rw [f3, f4] at this
      exact this
  · obtain ⟨f1, f2, f3, f4⟩ := prop_facts (a := p - q) (b := b - x) (c := b - a) (by omega) (by omega) hd
    have bt := ln_between (p := p) (q := q) ab x0 x1
    have e := ln_dn (p := p) (q := q) (x := x) ab
    have e1 : lnL a p b q x = lnN a p b q x / (b - a) := rfl
    have e2 : lnH a p b q x = cdv (lnN a p b q x) (b - a) := rfl
    have fc := fl_cl (lnN a p b q x) (b - a) (by omega)
    rw [e.1, e.2]
    refine at_dn a p b q x _ _ w a0 ab b1 p0 p1 q0 (by omega) q1 (by omega) (by omega) (by omega) (by omega) x0 x1 (by omega) (by omega) (Lib.hid fun u v W h => dist_any u v W h.1 h.2.1 h.2.2.1 h.2.2.2) (fun W => ?_) (fun W => ?_)
    · have := of_any (p - q) (b - x) (b - a) W
      rw [f1, f2] at this
      exact this.mono fun _ _ g => ⟨_, g.1, g.2⟩
    · have := up_any (p - q) (b - x) (b - a) W
      rw [f3, f4] at this
      exact this
end Go.Proofs.YtmdpdpbkbakidaaGreat

/- Package profile: a place on its piece. -/
namespace Go.Proofs.YtmdpdpbkbakidaaGreat
open Go.RowKit

theorem find_of {v : Value} {l : List (Int × Int)} {w : World} (hv : Pts w v l) (h : RP l) (x : Int) (i : Nat) (hi : IsPc l x i) :
    Calls Tryz.prog 60 #[v, .int .i64 x] w fun e w' => e = .returned (.tuple #[.agg #[.int .i64 (gX l (i - 1)), .int .i64 (gR l (i - 1)), .int .i64 (gX l i), .int .i64 (gR l i)], .int .i64 i]) ∧ Below w.heap.size w w' := by
  have n0 := h.n0
  have n1 := h.n1
  obtain ⟨a, cap, rfl, hl, hh⟩ := hv
  rcases hh with hh | ⟨b, off, rfl, hb, hc⟩
  · omega
  · exact find_some b off l.length cap l x i w n0 (by omega) rfl hb (Lib.hid hc) (Lib.hid hi)
/-- the radius on the piece -/
theorem at_of {l : List (Int × Int)} {x : Int} {i : Nat} (h : RP l) (x0 : 0 ≤ x) (hi : IsPc l x i) (w : World) :
    Calls Tryz.prog 61 #[.agg #[.int .i64 (gX l (i - 1)), .int .i64 (gR l (i - 1)), .int .i64 (gX l i), .int .i64 (gR l i)], .int .i64 x] w fun e w' => e = .returned (.agg #[.int .i64 (rdL l x), .int .i64 (rdH l x)]) ∧ Below w.heap.size w w' := by
  obtain ⟨h1, h2, ⟨b0, b1, b2⟩, ⟨c0, c1⟩, ⟨d0, d1⟩, g0, g1⟩ := pc_bd h x0 hi
  have e := pc_of hi
  unfold rdL rdH
  rw [e]
  exact at_any _ _ _ _ x w b0 b1 b2 (by omega) c1 (by omega) d1 g0 g1

theorem plE_zero {l : List (Int × Int)} {x : Int} : plE l x = 0 ↔ RP l ∧ 0 ≤ x ∧ x ≤ gX l (l.length - 1) := by
  unfold plE
  by_cases h : ckE l = 0
  · rw [if_pos h]
    have := (ckE_iff l).1 h
    by_cases g : x < 0 ∨ gX l (l.length - 1) < x
    · rw [if_pos g]; exact ⟨fun e => by omega, fun e => by omega⟩
    · rw [if_neg g]; exact ⟨fun _ => ⟨this, by omega, by omega⟩, fun _ => rfl⟩
  · rw [if_neg h]
    exact ⟨fun e => by omega, fun e => absurd ((ckE_iff l).2 e.1) h⟩
end Go.Proofs.YtmdpdpbkbakidaaGreat

/- Package profile: At. -/
namespace Go.Proofs.YtmdpdpbkbakidaaGreat
open Go.RowKit

theorem At_bad (v : Value) (x E : Int) (w : World) (e1 : (E == 0) = false) (e2 : (E != 0) = true)
    (H1 : Hid (∀ W, Below w.heap.size w W → Calls Tryz.prog 59 #[v, .int .i64 x] W fun e w' => e = .returned (.int .i64 E) ∧ Below W.heap.size W w')) :
    Calls Tryz.prog 43 #[v, .int .i64 x] w fun e w' => e = .returned (.tuple #[.agg #[.int .i64 0, .int .i64 0], .int .i64 E]) ∧ Below w.heap.size w w' := by
  have T0 := Lib.hid (Two.new w (.int .i64 0) (.int .i64 0) 29)
  go_enter Tryz.func43, Tryz.ntmps43
  go_wp2_with fail
  refine (H1.out _ (bel_alloc (Below.refl _ _))).mono ?_
  rintro e w1 ⟨rfl, gg⟩
  replace T0 := Lib.hid (T0.out.below gg)
  have X1 := Lib.hid (bel_alloc gg); clear gg
  obtain ⟨z0, z1, f0, f1, hlt⟩ := T0.out
  go_wp2
  obtain ⟨t0, t1⟩ := two_read w1 w.heap.size (.int .i64 0) (.int .i64 0) z0 z1
  refine bodyPost_ret (v := .tuple #[.agg #[.int .i64 0, .int .i64 0], .int .i64 E]) (by simp [results, Tryz.results43, go_sem, t0, t1]) rfl ?_
  exact ⟨rfl, (X1.out.setCell (Nat.le_refl _) _).setCell (Nat.le_refl _) _⟩
set_option maxHeartbeats 4000000 in
theorem At_ok (v : Value) (x a p b q i L H : Int) (w : World)
    (H1 : Hid (∀ W, Below w.heap.size w W → Calls Tryz.prog 59 #[v, .int .i64 x] W fun e w' => e = .returned (.int .i64 0) ∧ Below W.heap.size W w'))
    (H2 : Hid (∀ W, Below w.heap.size w W → Calls Tryz.prog 60 #[v, .int .i64 x] W fun e w' => e = .returned (.tuple #[.agg #[.int .i64 a, .int .i64 p, .int .i64 b, .int .i64 q], .int .i64 i]) ∧ Below W.heap.size W w'))
    (H3 : Hid (∀ W, Calls Tryz.prog 61 #[.agg #[.int .i64 a, .int .i64 p, .int .i64 b, .int .i64 q], .int .i64 x] W fun e w' => e = .returned (.agg #[.int .i64 L, .int .i64 H]) ∧ Below W.heap.size W w')) :
    Calls Tryz.prog 43 #[v, .int .i64 x] w fun e w' => e = .returned (.tuple #[.agg #[.int .i64 L, .int .i64 H], .int .i64 0]) ∧ Below w.heap.size w w' := by
  have T0 := Lib.hid (Two.new w (.int .i64 0) (.int .i64 0) 29)
  go_enter Tryz.func43, Tryz.ntmps43
  go_wp2_with fail
  refine (H1.out _ (bel_alloc (Below.refl _ _))).mono ?_
  rintro e w1 ⟨rfl, gg⟩
  replace T0 := Lib.hid (T0.out.below gg)
  have X1 := Lib.hid (bel_alloc gg); clear gg
  go_wp2_with fail
  refine (H2.out _ X1.out).mono ?_
  rintro e w2 ⟨rfl, gg⟩
  replace T0 := Lib.hid (T0.out.below gg)
  replace X1 := Lib.hid (bel_trans X1.out gg); clear gg
  go_wp2_with fail
  refine (H3.out _).mono ?_
  rintro e w3 ⟨rfl, gg⟩
  replace T0 := Lib.hid ((T0.out.alloc _).below gg)
  replace X1 := Lib.hid (bel_trans X1.out (bel_alloc gg)); clear gg
  obtain ⟨z0, z1, f0, f1, hlt⟩ := T0.out
  go_wp2
  obtain ⟨t0, t1⟩ := two_read w3 w.heap.size (.int .i64 L) (.int .i64 H) z0 z1
  refine bodyPost_ret (v := .tuple #[.agg #[.int .i64 L, .int .i64 H], .int .i64 0]) (by simp [results, Tryz.results43, go_sem, t0, t1]) rfl ?_
  exact ⟨rfl, (X1.out.setCell (Nat.le_refl _) _).setCell (Nat.le_refl _) _⟩
theorem At_any (v : Value) (l : List (Int × Int)) (x : Int) (w : World) (hv : Pts w v l) :
    Calls Tryz.prog 43 #[v, .int .i64 x] w fun e w' => e = .returned (.tuple #[.agg #[.int .i64 (atL l x), .int .i64 (atH l x)], .int .i64 (plE l x)]) ∧ Below w.heap.size w w' := by
  have HC : Hid (∀ W, Below w.heap.size w W → _) := fun W hW => place_any v l x W (hv.below hW)
  unfold atL atH
  by_cases h : plE l x = 0
  · obtain ⟨hR, x0, x1⟩ := plE_zero.1 h
    have hi := pc_is hR.n0 x1
    rw [if_pos h, if_pos h, h]
    rw [h] at HC
    exact At_ok v x _ _ _ _ _ _ _ w HC (Lib.hid fun W hW => find_of (hv.below hW) hR x _ hi) (Lib.hid fun W => at_of hR x0 hi W)
  · rw [if_neg h, if_neg h]
    exact At_bad v x _ w (by simpa using h) (by simpa using h) HC
end Go.Proofs.YtmdpdpbkbakidaaGreat

/- Rows of bounds of the call's own. -/
namespace Go.Proofs.YtmdpdpbkbakidaaGreat
open Go.RowKit

/-! ### rows of bounds -/
theorem row_belB {W W' : World} {B n size : Nat} {e : TypeId} {v : Value} {xs : List Value} (h : W.ownsRow B e size v n xs) (hb : Below W.heap.size W W') : W'.ownsRow B e size v n xs := by
  obtain ⟨h1, h2⟩ := h
  refine ⟨h1, ?_⟩
  rcases h2 with ⟨h2, h3⟩ | ⟨g, cap, cur, h2, hg, hh, r⟩
  · exact .inl ⟨h2, h3⟩
  · refine .inr ⟨g, cap, cur, h2, hg, ?_, r⟩
    rw [hb.block _ (Array.getElem?_eq_some_iff.1 hh).1]
    exact hh
def OwnB (w : World) (B : Nat) (v : Value) (l : List (Int × Int)) : Prop := w.ownsRow B 29 2 v l.length (flat l)
theorem OwnB.pts {w : World} {B : Nat} {v : Value} {l : List (Int × Int)} (h : OwnB w B v l) : Pts w v l := by
  have h' := h
  obtain ⟨_, h2⟩ := h
  rcases h2 with ⟨rfl, hn⟩ | ⟨g, cap, cur, rfl, hg, hh, hc, hm, hs, ht⟩
  · exact ⟨none, 0, by rw [hn], by omega, .inl hn⟩
  · have hlt : g < w.heap.size := (Array.getElem?_eq_some_iff.1 hh).1
    unfold maxLen at hm
    refine ⟨_, cap, rfl, ⟨hc, by omega⟩, .inr ⟨g, 0, rfl, hlt, fun j hj => ?_⟩⟩
    have hcell := World.ownsRow.cells h' (g := g) rfl
    have hf := flat_at l j hj
    have c0 := hcell _ _ hf.1
    have c1 := hcell _ _ hf.2
    rw [Go.WideShapes.add_plain] at c0 c1
    exact ⟨c0, by rw [Nat.add_assoc]; exact c1⟩
theorem flat_set (l : List (Int × Int)) (k : Nat) (x y : Int) : ((flat l).set (k * 2) (.int .i64 x)).set (k * 2 + 1) (.int .i64 y) = flat (l.set k (x, y)) := by
  induction l generalizing k with
  | nil => simp [flat]
  | cons q l ih =>
    cases k with
    | zero => simp [flat]
    | succ k =>
      rw [show (k + 1) * 2 = k * 2 + 1 + 1 by omega]
      simp only [flat, List.set_cons_succ]
      rw [ih]
theorem OwnB.put {w : World} {B g n cap : Nat} {l : List (Int × Int)} (hn : l.length = n) (h : OwnB w B (.slice (some ⟨g, 0, none⟩) n cap) l) (k : Nat) (x y : Int) : OwnB ((w.setCell ⟨g, k * 2, none⟩ (.int .i64 x)).setCell ⟨g, k * 2 + 1, none⟩ (.int .i64 y)) B (.slice (some ⟨g, 0, none⟩) n cap) (l.set k (x, y)) := by
  subst hn
  have h0 : w.ownsRow B 29 2 (.slice (some ⟨g, 0, none⟩) l.length cap) l.length (flat l) := h
  have h1 := (World.ownsRow.stored h0 (k * 2) (.int .i64 x)).1
  have h2 := (World.ownsRow.stored h1 (k * 2 + 1) (.int .i64 y)).1
  rw [flat_set] at h2
  unfold OwnB
  rw [List.length_set]
  exact h2
theorem bd_info : (Tryz.prog.info? 29).map (fun i => (i.zero, i.size, i.bytes)) = some (some (.agg #[.int .i64 0, .int .i64 0]), 2, 16) := by kernel_rfl
theorem madeBd (n : Nat) : (madeCells (Value.agg #[.int .i64 0, .int .i64 0]).cells (n * 2)).toList = flat (List.replicate n ((0, 0) : Int × Int)) := by
  apply List.ext_getElem?
  intro i
  by_cases hi : i < n * 2
  · have h1 : ∃ j, j < n ∧ (i = j * 2 ∨ i = j * 2 + 1) := ⟨i / 2, by omega, by omega⟩
    obtain ⟨j, hj, e⟩ := h1
    have f := flat_at (List.replicate n ((0, 0) : Int × Int)) j (by simpa using hj)
    have g0 : gX (List.replicate n ((0, 0) : Int × Int)) j = 0 ∧ gR (List.replicate n ((0, 0) : Int × Int)) j = 0 := by
      simp [gX, gR, List.getD_eq_getElem?_getD, List.getElem?_replicate, hj]
    rw [g0.1, g0.2] at f
    rcases e with rfl | rfl
    · rw [f.1]
      simp [madeCells, Value.cells, hi]
    · rw [f.2]
      simp [madeCells, Value.cells, hi, show (j * 2 + 1) % 2 = 1 by omega]
  · rw [List.getElem?_eq_none (by simp [madeCells, Value.cells]; omega), List.getElem?_eq_none (by rw [flat_len]; simp; omega)]
theorem set_nextB {f : Nat → Int × Int} (k m : Nat) (h : k < m) : ((List.range k).map f ++ List.replicate (m - k) (0, 0)).set k (f k) = (List.range (k + 1)).map f ++ List.replicate (m - (k + 1)) (0, 0) := by
  obtain ⟨d, rfl⟩ : ∃ d, m = k + 1 + d := ⟨m - (k + 1), by omega⟩
  rw [show k + 1 + d - k = d + 1 by omega, show k + 1 + d - (k + 1) = d by omega, List.replicate_succ, List.range_succ, List.map_append, List.set_append_right _ _ (by simp)]
  simp
end Go.Proofs.YtmdpdpbkbakidaaGreat

/- Package standing: sums. -/
namespace Go.Proofs.YtmdpdpbkbakidaaGreat
open Go.RowKit

/-- block q alone has been written below the end of the heap -/
theorem sgrown_set {w w' : World} {b : Nat} (h : w.grownBy w' (some b)) (i : Nat) (v : Value) (hb : b = b) : w.grownBy (w'.setCell ⟨b, i, none⟩ v) (some b) :=
  ⟨h.os, h.tape, h.output, by simpa [World.setCell] using h.size, fun k hk hne => by
    have : b ≠ k := fun e => hne (by rw [e])
    rw [Below.heap_setCell _ _ _ _ (by show k ≠ b; omega)]
    exact h.block k hk hne⟩
theorem sgrown_new {w w' : World} {b : Nat} (h : w.grownBy w' (some b)) (g i : Nat) (hg : w.heap.size ≤ g) (v : Value) : w.grownBy (w'.setCell ⟨g, i, none⟩ v) (some b) :=
  ⟨h.os, h.tape, h.output, by simpa [World.setCell] using h.size, fun k hk hne => by
    rw [Below.heap_setCell _ _ _ _ (by show k ≠ g; omega)]
    exact h.block k hk hne⟩
theorem sgrown_al {w w' : World} {b : Nat} (h : w.grownBy w' (some b)) (o : Obj) : w.grownBy (w'.alloc o) (some b) :=
  h.trans (World.grownBy_alloc w' o (some b))
theorem two_grown {w w' : World} {b q : Nat} {x y : Value} (h : Two b w x y) (hg : w.grownBy w' (some q)) (hne : b ≠ q) : Two b w' x y := by
  obtain ⟨h0, h1, h2, h3, h4⟩ := h
  have hb := hg.block b h4 (by simpa using hne)
  exact ⟨(World.cell?_of_block hb).trans h0, (World.cell?_of_block hb).trans h1, (World.frozen?_of_block hb).trans h2, (World.frozen?_of_block hb).trans h3, Nat.lt_of_lt_of_le h4 hg.size⟩
set_option maxHeartbeats 8000000 in
set_option maxRecDepth 100000 in
theorem stAcc_any (lo hi x y : Int) (q : Nat) (w : World) (T : Two q w (.int .i64 x) (.int .i64 y)) (b0 : 0 ≤ lo ∧ lo ≤ 3000000000000000) (b1 : 0 ≤ hi ∧ hi ≤ 3000000000000000) (b2 : 0 ≤ x ∧ x ≤ 3000000000000000) (b3 : 0 ≤ y ∧ y ≤ 3000000000000000) :
    Calls Tryz.prog 42 #[.agg #[.int .i64 lo, .int .i64 hi], .pointer (some ⟨q, 0, none⟩)] w fun e w' => e = .returned (.agg #[.int .i64 (x + lo), .int .i64 (y + hi)]) ∧ Two q w' (.int .i64 (x + lo)) (.int .i64 (y + hi)) ∧ w.grownBy w' (some q) := by
  have e0 : IntKind.i64.wrap (x + lo) = x + lo := wrap_in _ ⟨by omega, by omega⟩
  have e1 : IntKind.i64.wrap (y + hi) = y + hi := wrap_in _ ⟨by omega, by omega⟩
  have hlt : q < w.heap.size := T.2.2.2.2
  have T1 := Lib.hid ((T.alloc (.cells #[.int .i64 lo, .int .i64 hi] 29)).alloc (.cells #[.int .i64 0, .int .i64 0] 29))
  have N1 := Lib.hid ((Two.new w (.int .i64 lo) (.int .i64 hi) 29).alloc (.cells #[.int .i64 0, .int .i64 0] 29))
  have R1 := Lib.hid (Two.new (w.alloc (.cells #[.int .i64 lo, .int .i64 hi] 29)) (.int .i64 0) (.int .i64 0) 29)
  rw [World.size_alloc] at R1
  have G1 := Lib.hid (sgrown_al (sgrown_al (World.grownBy.refl w (some q)) (.cells #[.int .i64 lo, .int .i64 hi] 29)) (.cells #[.int .i64 0, .int .i64 0] 29))
  have T2 := Lib.hid ((T1.out.set0 (.int .i64 (x + lo))).set1 (.int .i64 (y + hi)))
  have R2 := Lib.hid ((R1.out.other ⟨q, 0, none⟩ (by show q ≠ w.heap.size + 1; omega) (.int .i64 (x + lo))).other ⟨q, 1, none⟩ (by show q ≠ w.heap.size + 1; omega) (.int .i64 (y + hi)))
  have G2 := Lib.hid (sgrown_set (sgrown_set G1.out 0 (.int .i64 (x + lo)) rfl) 1 (.int .i64 (y + hi)) rfl)
  have z1 : q ≠ w.heap.size := by omega
  have z2 : q ≠ w.heap.size + 1 := by omega
  have z3 : w.heap.size ≠ q := by omega
  have z4 : w.heap.size + 1 ≠ q := by omega
  obtain ⟨t0, t1, t2, t3, _⟩ := T1.out
  obtain ⟨n0, n1, n2, n3, _⟩ := N1.out
  obtain ⟨r0, r1, r2, r3, _⟩ := R1.out
  clear T hlt
  go_enter Tryz.func42, Tryz.ntmps42
  go_wp2
  have r0 := R2.out.1
  have r1 := R2.out.2.1
  obtain ⟨u0, u1⟩ := two_read _ (w.heap.size + 1) (.int .i64 (x + lo)) (.int .i64 (y + hi)) r0 r1
  refine bodyPost_ret (v := .agg #[.int .i64 (x + lo), .int .i64 (y + hi)]) (by simp [results, Tryz.results42, go_sem, u0, u1]) rfl ?_
  exact ⟨rfl, ((T2.out.other ⟨w.heap.size + 1, 0, none⟩ (by show w.heap.size + 1 ≠ q; omega) _).other ⟨w.heap.size + 1, 1, none⟩ (by show w.heap.size + 1 ≠ q; omega) _), sgrown_new (sgrown_new G2.out _ 0 (by omega) _) _ 1 (by omega) _⟩
end Go.Proofs.YtmdpdpbkbakidaaGreat

/- Package standing: sums. -/
namespace Go.Proofs.YtmdpdpbkbakidaaGreat
open Go.RowKit

/-- the row of sums while it is filled -/
def fillB (f : Nat → Int × Int) (k q : Nat) : List (Int × Int) := (List.range k).map f ++ List.replicate (q - k) (0, 0)
theorem fillB_len (f : Nat → Int × Int) (k q : Nat) (h : k ≤ q) : (fillB f k q).length = q := by unfold fillB; simp; omega
set_option maxRecDepth 100000 in
set_option maxHeartbeats 32000000 in
theorem stSums_some (a : Option Addr) (m cap b off q cap2 : Nat) (l : List (Int × Int)) (ls : List Int) (w : World) (q1 : 1 ≤ q) (q2 : q ≤ 127) (hq : Hid (ls.length = q + 1)) (hb : b < w.heap.size) (hR : Hid (RP l)) (hL : Hid (LvR l ls))
    (hc : Hid (∀ j, j < q + 1 → w.cell? ⟨b, off + j, none⟩ = some (.int .i64 (ls.getD j 0))))
    (HA : Hid (∀ x W, Below w.heap.size w W → 0 ≤ x → x ≤ gX l (l.length - 1) → Calls Tryz.prog 43 #[.slice a m cap, .int .i64 x] W fun e w' => e = .returned (.tuple #[.agg #[.int .i64 (rdL l x), .int .i64 (rdH l x)], .int .i64 0]) ∧ Below W.heap.size W w')) :
    Calls Tryz.prog 24 #[.slice a m cap, .slice (some ⟨b, off, none⟩) (q + 1) cap2] w fun e w' => ∃ v, e = .returned v ∧ Pts w' v (smS l ls q) ∧ Below w.heap.size w w' := by
  obtain ⟨i0, hi, hz0, hz1, hz2⟩ := info_parts bd_info
  have hmf : ∀ (fn : Fn) (first cap : Array Value) (w : World), (Instr.makeFunc fn first cap).run Tryz.prog w = .ok (.func fn first cap) w := fun _ _ _ _ => rfl
  have wq : IntKind.i64.wrap ((q : Int) + 1 - 1) = (q : Int) := by rw [wrap_in _ ⟨by omega, by omega⟩]; omega
  have wq2 : IntKind.i64.wrap (q : Int) = (q : Int) := wrap_in _ ⟨by omega, by omega⟩
  have T0 := Lib.hid (Two.new w (.int .i64 0) (.int .i64 0) 29)
  have X0 : Hid (Below w.heap.size w (w.alloc (.cells #[.int .i64 0, .int .i64 0] 29))) := Lib.hid (bel_alloc (Below.refl _ _))
  have LB := Lib.hid (fun j (hj : j < q + 1) => hL.out.bd j (by rw [hq.out]; exact hj))
  have EN : Hid (∀ k, k < q → (0 ≤ enL l ls k ∧ enL l ls k ≤ enH l ls k ∧ enH l ls k ≤ 3000000000000000) ∧ (0 < ls.getD (k + 1) 0 - ls.getD k 0 ∧ ls.getD (k + 1) 0 - ls.getD k 0 ≤ 100000) ∧ (1 ≤ slL l (ls.getD k 0) (ls.getD (k + 1) 0) ∧ slL l (ls.getD k 0) (ls.getD (k + 1) 0) ≤ slH l (ls.getD k 0) (ls.getD (k + 1) 0) ∧ slH l (ls.getD k 0) (ls.getD (k + 1) 0) ≤ 100000)) := Lib.hid fun k hk => by
    have b0 := en_bd hR.out hL.out k (by rw [hq.out]; omega)
    have s := hL.out.slice hR.out (k := k) (by rw [hq.out]; omega)
    have d0 := LB.out 0 (by omega)
    have dk := LB.out k (by omega)
    have xx := (hR.out.bx (l.length - 1) (by have := hR.out.n0; omega)).2
    refine ⟨⟨b0.1, b0.2.1, ?_⟩, s.1, s.2⟩
    omega
  obtain ⟨p0, hp0⟩ : ∃ p0, ls.getD 0 0 = p0 := ⟨_, rfl⟩
  have HP0 := Lib.hid hp0
  have HC0 : Hid (w.cell? ⟨b, off, none⟩ = some (.int .i64 p0)) := Lib.hid (by rw [← hp0]; exact hc.out 0 (by omega))
  clear hp0
  go_enter Tryz.func24, Tryz.ntmps24
  go_wp2_with (at_make; refine wpList_make_full _ rfl _ _ 35 rfl (w.heap.size + 1) 29 i0 (.agg #[.int .i64 0, .int .i64 0]) 2 Tryz.underlying35 hi hz0 hz1 .i64 .i64 _ _ q rfl rfl (by omega) (by omega) (by rw [hz2]; omega) (by unfold maxLen; omega) (by simp) ?_; intro w2 ho2 hg2; have c0 : w2.cell? ⟨b, off, none⟩ = some (.int .i64 p0) := ((bcell (X0.out.grown hg2 (by simp) (by simp))).1 _ _ hb).trans HC0.out)
  rw [madeBd] at ho2
  simp only [World.size_alloc] at ho2
  have X2 := Lib.hid (X0.out.grown hg2 (by simp) (by simp))
  have T2 := Lib.hid (T0.out.below ((Below.refl _ _).grown hg2 (Nat.le_refl _) (by simp)))
  have G2 : Hid (w.heap.size + 1 < w2.heap.size) := Lib.hid (World.ownsRow.lt ho2 _ rfl).2
  have O2 : Hid (OwnB w2 (w.heap.size + 1) (.slice (some ⟨w.heap.size + 1, 0, none⟩) q q) (fillB (fun i => (enL l ls (i + 1), enH l ls (i + 1))) 0 q)) := Lib.hid (by
    show OwnB _ _ _ (List.replicate q (0, 0))
    unfold OwnB
    rw [List.length_replicate]
    exact ho2)
  clear ho2 hg2
  have l0 := LB.out 0 (by omega)
  rw [HP0.out] at l0
  have RD0 : Hid (enL l ls 0 = 0 ∧ enH l ls 0 = 0) := Lib.hid ⟨rfl, rfl⟩
  have HA0 := Lib.hid (HA.out p0 w2 X2.out l0.1 l0.2)
  clear l0
  refine HA0.out.mono ?_
  rintro e w3 ⟨rfl, gg⟩
  have hs3 : Hid (w2.heap.size ≤ w3.heap.size) := Lib.hid gg.size
  have X3 := Lib.hid (bel_trans X2.out gg)
  have T3 := Lib.hid ((T2.out.below gg).alloc (.cells #[.int .i64 (rdL l (p0)), .int .i64 (rdH l (p0))] 29))
  have O3 := Lib.hid (row_belB (row_belB O2.out gg) (bel_alloc (o := .cells #[.int .i64 (rdL l (p0)), .int .i64 (rdH l (p0))] 29) (Below.refl _ _)))
  have B3 := Lib.hid (Two.new w3 (.int .i64 (rdL l (p0))) (.int .i64 (rdH l (p0))) 29)
  have X4 := Lib.hid (bel_trans X3.out (bel_alloc (o := .cells #[.int .i64 (rdL l (p0)), .int .i64 (rdH l (p0))] 29) (Below.refl _ _)))
  clear gg c0 HA0
  obtain ⟨Bt, hBt⟩ : ∃ Bt, w3.heap.size = Bt := ⟨_, rfl⟩
  have hBt1 : w.heap.size + 1 < Bt := by have := hs3.out; have := G2.out; omega
  rw [hBt] at B3
  replace B3 : Hid (Two Bt (w3.alloc (.cells #[.int .i64 (rdL l p0), .int .i64 (rdH l p0)] 29)) (.int .i64 (rdL l (ls.getD 0 0))) (.int .i64 (rdH l (ls.getD 0 0)))) := Lib.hid (by rw [HP0.out]; exact B3.out)
  replace T3 : Hid (Two w.heap.size (w3.alloc (.cells #[.int .i64 (rdL l p0), .int .i64 (rdH l p0)] 29)) (.int .i64 (enL l ls 0)) (.int .i64 (enH l ls 0))) := Lib.hid (by rw [RD0.out.1, RD0.out.2]; exact T3.out)
  replace hBt := Lib.hid hBt
  clear RD0
  have l0 : (q : Int) ≤ 127 := by omega
  go_wp2_with fail
  rw [hBt.out]
  go_loopw [29] (fun ii wr => ∃ k : Nat, k ≤ q ∧ ii = .int .i64 k ∧ Hid (Below w.heap.size w wr) ∧ Hid (Two w.heap.size wr (.int .i64 (enL l ls k)) (.int .i64 (enH l ls k))) ∧ Hid (Two Bt wr (.int .i64 (rdL l (ls.getD k 0))) (.int .i64 (rdH l (ls.getD k 0)))) ∧ Hid (OwnB wr (w.heap.size + 1) (.slice (some ⟨w.heap.size + 1, 0, none⟩) q q) (fillB (fun i => (enL l ls (i + 1), enH l ls (i + 1))) k q))) (fun ii _ => q - (intOf ii).toNat)
  case atStart => exact ⟨0, Nat.zero_le _, rfl, X4, T3, B3, O3⟩
  case round =>
    obtain ⟨k, hk, rfl, hB, hT, hBo, hO⟩ := hrel
    by_cases hlt : k < q
    · have en := EN.out k hlt
      have hy := LB.out (k + 1) (by omega)
      have HAy := Lib.hid (fun W hW => HA.out (ls.getD (k + 1) 0) W hW hy.1 hy.2)
      have c0 : wr.cell? ⟨b, off + k, none⟩ = some (.int .i64 (ls.getD k 0)) := by rw [(bcell hB.out).1 _ _ hb]; exact hc.out k (by omega)
      have c1 : wr.cell? ⟨b, off + (k + 1), none⟩ = some (.int .i64 (ls.getD (k + 1) 0)) := by rw [(bcell hB.out).1 _ _ hb]; exact hc.out (k + 1) (by omega)
      have S3 := Lib.hid (set_nextB (f := fun i => (enL l ls (i + 1), enH l ls (i + 1))) k q hlt)
      have uL : Hid (enL l ls (k + 1) = enL l ls k + 3 * (ls.getD (k + 1) 0 - ls.getD k 0) * min (rdL l (ls.getD k 0)) (rdL l (ls.getD (k + 1) 0)) * min (rdL l (ls.getD k 0)) (rdL l (ls.getD (k + 1) 0))) := Lib.hid (by
        show enL l ls k + 3 * ((ls.getD (k + 1) 0 - ls.getD k 0) * (slL l (ls.getD k 0) (ls.getD (k + 1) 0) * slL l (ls.getD k 0) (ls.getD (k + 1) 0))) = _
        unfold slL; rw [Int.mul_assoc, Int.mul_assoc])
      have uH : Hid (enH l ls (k + 1) = enH l ls k + 3 * (ls.getD (k + 1) 0 - ls.getD k 0) * max (rdH l (ls.getD k 0)) (rdH l (ls.getD (k + 1) 0)) * max (rdH l (ls.getD k 0)) (rdH l (ls.getD (k + 1) 0))) := Lib.hid (by
        show enH l ls k + 3 * ((ls.getD (k + 1) 0 - ls.getD k 0) * (slH l (ls.getD k 0) (ls.getD (k + 1) 0) * slH l (ls.getD k 0) (ls.getD (k + 1) 0))) = _
        unfold slH; rw [Int.mul_assoc, Int.mul_assoc])
      have hen1 : 0 ≤ 3 * (ls.getD (k + 1) 0 - ls.getD k 0) * min (rdL l (ls.getD k 0)) (rdL l (ls.getD (k + 1) 0)) * min (rdL l (ls.getD k 0)) (rdL l (ls.getD (k + 1) 0)) ∧ 3 * (ls.getD (k + 1) 0 - ls.getD k 0) * min (rdL l (ls.getD k 0)) (rdL l (ls.getD (k + 1) 0)) * min (rdL l (ls.getD k 0)) (rdL l (ls.getD (k + 1) 0)) ≤ 3000000000000000 ∧ 0 ≤ 3 * (ls.getD (k + 1) 0 - ls.getD k 0) * max (rdH l (ls.getD k 0)) (rdH l (ls.getD (k + 1) 0)) * max (rdH l (ls.getD k 0)) (rdH l (ls.getD (k + 1) 0)) ∧ 3 * (ls.getD (k + 1) 0 - ls.getD k 0) * max (rdH l (ls.getD k 0)) (rdH l (ls.getD (k + 1) 0)) * max (rdH l (ls.getD k 0)) (rdH l (ls.getD (k + 1) 0)) ≤ 3000000000000000 := by
        have b1 := en_step hR.out hL.out (k := k) (by rw [hq.out]; omega)
        have e2 : ∀ d r : Int, 3 * d * r * r = 3 * (d * (r * r)) := fun d r => by rw [Int.mul_assoc, Int.mul_assoc]
        rw [e2, e2]
        show 0 ≤ 3 * ((ls.getD (k + 1) 0 - ls.getD k 0) * (slL l (ls.getD k 0) (ls.getD (k + 1) 0) * slL l (ls.getD k 0) (ls.getD (k + 1) 0))) ∧ 3 * ((ls.getD (k + 1) 0 - ls.getD k 0) * (slL l (ls.getD k 0) (ls.getD (k + 1) 0) * slL l (ls.getD k 0) (ls.getD (k + 1) 0))) ≤ _ ∧ 0 ≤ 3 * ((ls.getD (k + 1) 0 - ls.getD k 0) * (slH l (ls.getD k 0) (ls.getD (k + 1) 0) * slH l (ls.getD k 0) (ls.getD (k + 1) 0))) ∧ 3 * ((ls.getD (k + 1) 0 - ls.getD k 0) * (slH l (ls.getD k 0) (ls.getD (k + 1) 0) * slH l (ls.getD k 0) (ls.getD (k + 1) 0))) ≤ _
        omega
      have hmm : (0 ≤ min (rdL l (ls.getD k 0)) (rdL l (ls.getD (k + 1) 0)) ∧ min (rdL l (ls.getD k 0)) (rdL l (ls.getD (k + 1) 0)) ≤ 100000) ∧ 0 ≤ max (rdH l (ls.getD k 0)) (rdH l (ls.getD (k + 1) 0)) ∧ max (rdH l (ls.getD k 0)) (rdH l (ls.getD (k + 1) 0)) ≤ 100000 := by
        have s := en.2.2
        unfold slL slH at s
        omega
      have hd := en.2.1
      have he := en.1
      have hln := fillB_len (fun i => (enL l ls (i + 1), enH l ls (i + 1))) k q (by omega)
      have SF : Hid ((fillB (fun i => (enL l ls (i + 1), enH l ls (i + 1))) k q).set k (enL l ls (k + 1), enH l ls (k + 1)) = fillB (fun i => (enL l ls (i + 1), enH l ls (i + 1))) (k + 1) q) := Lib.hid S3.out
      rw [uL.out, uH.out] at SF
      clear S3 en hy
      generalize fillB (fun i => (enL l ls (i + 1), enH l ls (i + 1))) k q = L at *
      generalize hL2 : fillB (fun i => (enL l ls (i + 1), enH l ls (i + 1))) (k + 1) q = L2 at *
      replace hL2 := Lib.hid hL2
      generalize rdL l (ls.getD k 0) = xL at *
      generalize rdH l (ls.getD k 0) = xH at *
      generalize hyL : rdL l (ls.getD (k + 1) 0) = yL at *
      generalize hyH : rdH l (ls.getD (k + 1) 0) = yH at *
      generalize hxx : ls.getD k 0 = x at *
      replace hxx := Lib.hid hxx.symm
      generalize hyy : ls.getD (k + 1) 0 = y at *
      replace hyL := Lib.hid hyL
      replace hyH := Lib.hid hyH
      replace hyy := Lib.hid hyy.symm
      generalize enL l ls k = eL at *
      generalize enH l ls k = eH at *
      replace hln := Lib.hid hln
      have lk : (k : Int) < (q : Int) := by omega
      have HAw := Lib.hid (HAy.out wr hB.out)
      clear HAy
      have wd : IntKind.i64.wrap (y - x) = y - x := wrap_in _ ⟨by omega, by omega⟩
      have wk1 : IntKind.i64.wrap ((k : Int) + 1) = (k : Int) + 1 := wrap_in _ ⟨by omega, by omega⟩
      go_wp2_with fail
      refine HAw.out.mono ?_
      rintro e w5 ⟨rfl, gg⟩
      clear c0 c1 HAw
      have hs5 : Hid (wr.heap.size ≤ w5.heap.size) := Lib.hid gg.size
      have X5 := Lib.hid (bel_trans hB.out gg)
      have X6 := Lib.hid (bel_trans X5.out (bel_alloc (o := .cells #[.int .i64 yL, .int .i64 yH] 29) (Below.refl _ _)))
      have T6 := Lib.hid ((hT.out.below gg).alloc (.cells #[.int .i64 yL, .int .i64 yH] 29))
      have B6 := Lib.hid ((hBo.out.below gg).alloc (.cells #[.int .i64 yL, .int .i64 yH] 29))
      have O6 := Lib.hid (row_belB (row_belB hO.out gg) (bel_alloc (o := .cells #[.int .i64 yL, .int .i64 yH] 29) (Below.refl _ _)))
      have P6 := Lib.hid (Two.new w5 (.int .i64 yL) (.int .i64 yH) 29)
      have hTp : Bt < w5.heap.size := by have := hs5.out; have := hBo.out.2.2.2.2; omega
      have e0 : (w5.alloc (.cells #[.int .i64 yL, .int .i64 yH] 29)).cell? ⟨b, off + k, none⟩ = some (.int .i64 x) := by
        rw [World.cell?_alloc_lt w5 _ _ (Nat.lt_of_lt_of_le hb X5.out.size), (bcell X5.out).1 _ _ hb, hxx.out]; exact hc.out k (by omega)
      have e1 : (w5.alloc (.cells #[.int .i64 yL, .int .i64 yH] 29)).cell? ⟨b, off + (k + 1), none⟩ = some (.int .i64 y) := by
        rw [World.cell?_alloc_lt w5 _ _ (Nat.lt_of_lt_of_le hb X5.out.size), (bcell X5.out).1 _ _ hb, hyy.out]; exact hc.out (k + 1) (by omega)
      clear gg
      have hOc : Hid (∀ W, OwnB W (w.heap.size + 1) (.slice (some ⟨w.heap.size + 1, 0, none⟩) q q) L → ∃ z0 z1 : Int, W.cell? ⟨w.heap.size + 1, k * 2, none⟩ = some (.int .i64 z0) ∧ W.cell? ⟨w.heap.size + 1, k * 2 + 1, none⟩ = some (.int .i64 z1) ∧ W.frozen? ⟨w.heap.size + 1, k * 2, none⟩ = false ∧ W.frozen? ⟨w.heap.size + 1, k * 2 + 1, none⟩ = false) := Lib.hid fun W O => by
        obtain ⟨b', o', e, _, hcc⟩ := O.pts.at (by omega)
        simp only [Option.some.injEq, Addr.mk.injEq, and_true] at e
        obtain ⟨rfl, rfl⟩ := e
        have := hcc k (by omega)
        simp only [Nat.zero_add] at this
        have hr : W.ownsRow (w.heap.size + 1) 29 2 (.slice (some ⟨w.heap.size + 1, 0, none⟩) q q) L.length (flat L) := O
        rw [hln.out] at hr
        exact ⟨_, _, this.1, this.2, World.ownsRow.frozenAt hr _, World.ownsRow.frozenAt hr _⟩
      have HCL : Hid (∀ W, _) := Lib.hid fun W => stCyl_any (min xL yL) (y - x) W hmm.1.1 hmm.1.2 (by omega) (by omega)
      have HCH : Hid (∀ W, _) := Lib.hid fun W => stCyl_any (max xH yH) (y - x) W hmm.2.1 hmm.2.2 (by omega) (by omega)
      generalize hmL : min xL yL = mL at *
      generalize hmH : max xH yH = mH at *
      generalize hcL : 3 * (y - x) * mL * mL = cL at *
      generalize hcH : 3 * (y - x) * mH * mH = cH at *
      have HAC : Hid (∀ W, Two w.heap.size W (.int .i64 eL) (.int .i64 eH) → _) := Lib.hid fun W hW => stAcc_any cL cH eL eH w.heap.size W hW ⟨hen1.1, hen1.2.1⟩ ⟨hen1.2.2.1, hen1.2.2.2⟩ ⟨he.1, by omega⟩ ⟨by omega, he.2.2⟩
      clear HA EN hB hT hBo hO hen1 hmm hd he wq wq2 T0 X0 G2 X2 T2 O2 X3 T3 O3 B3 X4 hs3 hs5 LB HC0 HP0 hBt
      go_wp2_with fail
      go_quiet (fail)
      rename_i nq
      clear e0 e1
      go_wp2_with fail
      have X9 : Hid (Below w.heap.size w ((w5.alloc (.cells #[.int .i64 yL, .int .i64 yH] 29)).drewN nq)) := Lib.hid ⟨X6.out.os, X6.out.tape, X6.out.output, X6.out.size, X6.out.block⟩
      have T9 : Hid (Two w.heap.size ((w5.alloc (.cells #[.int .i64 yL, .int .i64 yH] 29)).drewN nq) (.int .i64 eL) (.int .i64 eH)) := Lib.hid T6.out
      have B9 : Hid (Two Bt ((w5.alloc (.cells #[.int .i64 yL, .int .i64 yH] 29)).drewN nq) (.int .i64 xL) (.int .i64 xH)) := Lib.hid B6.out
      have P9 : Hid (Two w5.heap.size ((w5.alloc (.cells #[.int .i64 yL, .int .i64 yH] 29)).drewN nq) (.int .i64 yL) (.int .i64 yH)) := Lib.hid P6.out
      have O9 : Hid (OwnB ((w5.alloc (.cells #[.int .i64 yL, .int .i64 yH] 29)).drewN nq) (w.heap.size + 1) (.slice (some ⟨w.heap.size + 1, 0, none⟩) q q) L) := Lib.hid O6.out
      clear X5 X6 T6 B6 P6 O6
      generalize (w5.alloc (.cells #[.int .i64 yL, .int .i64 yH] 29)).drewN nq = W9 at *
      generalize hTp2 : w5.heap.size = Tp at *
      clear hTp2
      obtain ⟨b90, b91, b92, b93, _⟩ := B9.out
      obtain ⟨p90, p91, p92, p93, _⟩ := P9.out
      have n1 : w.heap.size ≠ Bt := by omega
      have n2 : Bt ≠ w.heap.size := by omega
      have n3 : w.heap.size ≠ Tp := by omega
      have n4 : Tp ≠ w.heap.size := by omega
      have n5 : w.heap.size + 1 ≠ Bt := by omega
      have n6 : w.heap.size + 1 ≠ Tp := by omega
      have n7 : Bt ≠ w.heap.size + 1 := by omega
      have n8 : Tp ≠ w.heap.size + 1 := by omega
      have n9 : Tp ≠ Bt := by omega
      have n10 : Bt ≠ Tp := by omega
      have T9d : Hid (Two w.heap.size W9.drew (.int .i64 eL) (.int .i64 eH)) := Lib.hid T9.out
      have B9d : Hid (Two Bt W9.drew (.int .i64 xL) (.int .i64 xH)) := Lib.hid B9.out
      have P9d : Hid (Two Tp W9.drew (.int .i64 yL) (.int .i64 yH)) := Lib.hid P9.out
      have O9d : Hid (OwnB W9.drew (w.heap.size + 1) (.slice (some ⟨w.heap.size + 1, 0, none⟩) q q) L) := Lib.hid O9.out
      have X9d : Hid (Below w.heap.size w W9.drew) := Lib.hid X9.out.drew
      have FK : Hid (∀ W, W9.drew.grownBy W (some w.heap.size) → (Two Bt W (.int .i64 xL) (.int .i64 xH) ∧ Two Tp W (.int .i64 yL) (.int .i64 yH) ∧ OwnB W (w.heap.size + 1) (.slice (some ⟨w.heap.size + 1, 0, none⟩) q q) L ∧ Below w.heap.size w W)) := Lib.hid fun W hW => ⟨two_grown B9d.out hW n2, two_grown P9d.out hW n4, World.ownsRow.kept O9d.out hW (.inr (by simp [Value.ownBlock])), X9d.out.grown hW X9d.out.size (fun k hk => by cases hk; exact Nat.le_refl _)⟩
      clear X9 B9 P9 O9 B9d P9d O9d X9d T9
      go_region_held3 (fun w' => w'.cell? ⟨Bt, 0, none⟩ = some (.int .i64 xL) ∧ w'.cell? ⟨Bt, 1, none⟩ = some (.int .i64 xH) ∧ w'.cell? ⟨Tp, 0, none⟩ = some (.int .i64 yL) ∧ w'.cell? ⟨Tp, 1, none⟩ = some (.int .i64 yH)) (go_keep) (first
        | (go_at_call 44; (with_reducible refine (HCL.out _).mono ?_); rintro e w6 ⟨rfl, rfl⟩)
        | (go_at_call 44; (with_reducible refine (HCH.out _).mono ?_); rintro e w6 ⟨rfl, rfl⟩)
        | (refine (HAC.out _ T9d.out).mono ?_; rintro e w8 ⟨rfl, t8, g8⟩; have T8 := Lib.hid t8; obtain ⟨h1, h2, h3, h4⟩ := FK.out _ g8; have B8 := Lib.hid h1; have P8 := Lib.hid h2; have O8 := Lib.hid h3; have X8 := Lib.hid h4; obtain ⟨b80, b81, b82, b83, _⟩ := h1; obtain ⟨p80, p81, p82, p83, _⟩ := h2; obtain ⟨z0, z1, r0, r1, r2, r3⟩ := hOc.out _ h3; clear t8 g8 h3 h4))
      all_goals
        have C8 := Lib.hid (((T8.out.other ⟨w.heap.size + 1, k * 2, none⟩ (by show w.heap.size + 1 ≠ w.heap.size; omega) (.int .i64 (eL + cL))).other ⟨w.heap.size + 1, k * 2 + 1, none⟩ (by show w.heap.size + 1 ≠ w.heap.size; omega) (.int .i64 (eH + cH))))
        have D8 := Lib.hid (((B8.out.other ⟨w.heap.size + 1, k * 2, none⟩ n5 (.int .i64 (eL + cL))).other ⟨w.heap.size + 1, k * 2 + 1, none⟩ n5 (.int .i64 (eH + cH))))
        have Q8 := Lib.hid (((P8.out.other ⟨w.heap.size + 1, k * 2, none⟩ n6 (.int .i64 (eL + cL))).other ⟨w.heap.size + 1, k * 2 + 1, none⟩ n6 (.int .i64 (eH + cH))))
        have OP := O8.out.put hln.out k (eL + cL) (eH + cH)
        rw [SF.out] at OP
        replace OP := Lib.hid OP
        have XS := Lib.hid ((X8.out.setCell (p := ⟨w.heap.size + 1, k * 2, none⟩) (Nat.le_succ _) (.int .i64 (eL + cL))).setCell (p := ⟨w.heap.size + 1, k * 2 + 1, none⟩) (Nat.le_succ _) (.int .i64 (eH + cH)))
        clear T8 B8 P8 O8 X8 b80 b81 b82 b83 p80 p81 p82 p83 r0 r1 r2 r3
        generalize ((w8.setCell ⟨w.heap.size + 1, k * 2, none⟩ (.int .i64 (eL + cL))).setCell ⟨w.heap.size + 1, k * 2 + 1, none⟩ (.int .i64 (eH + cH))) = WF at *
        obtain ⟨d0, d1, d2, d3, _⟩ := D8.out
        obtain ⟨f0, f1, f2, f3, _⟩ := Q8.out
        go_wp2
        go_roundw
        case rel =>
          have hbt : w.heap.size ≤ Bt := by omega
          refine ⟨k + 1, by omega, by go_num, Lib.hid ((XS.out.setCell (p := ⟨Bt, 0, none⟩) hbt _).setCell (p := ⟨Bt, 1, none⟩) hbt _), Lib.hid ?_, Lib.hid ?_, Lib.hid ?_⟩
          · rw [uL.out, uH.out]
            exact ((C8.out.other ⟨Bt, 0, none⟩ n2 _).other ⟨Bt, 1, none⟩ n2 _)
          · rw [← hyy.out, hyL.out, hyH.out]
            exact ((D8.out.set0 _).set1 _)
          · rw [hL2.out]
            exact World.ownsRow.kept (World.ownsRow.kept OP.out (sgrown_set (World.grownBy.refl _ _) 0 _ rfl) (.inr (by simpa [Value.ownBlock] using n5))) (sgrown_set (World.grownBy.refl _ _) 1 _ rfl) (.inr (by simpa [Value.ownBlock] using n5))
        case measure => simp [intOf]; omega
    · obtain rfl : k = q := by omega
      have P := Lib.hid hO.out.pts
      go_wp2
      go_returns
      refine ⟨_, rfl, ?_, hB.out⟩
      have := P.out
      unfold fillB at this
      rwa [Nat.sub_self, List.replicate_zero, List.append_nil] at this
end Go.Proofs.YtmdpdpbkbakidaaGreat

/- slices.Grow of nothing: a row of the call's own. -/
namespace Go.Proofs.YtmdpdpbkbakidaaGreat
open Go.RowKit

theorem grow_nil (n : Nat) (w : World) (n0 : 1 ≤ n) (n1 : n ≤ 100000) :
    Calls Tryz.prog 73 #[.slice none 0 0, .int .i64 n] w fun e w' => ∃ u, e = .returned u ∧ OwnI w' w.heap.size u [] ∧ Below w.heap.size w w' := by
  obtain ⟨i0, hi, hz0, hz1, hz2⟩ := info_parts info_int
  have := Any8.slices_Grow_grow Tryz.growI i0 (.int .i64 0) hi hz0 (by rw [hz1]; decide) none 0 0 n [] w (Nat.le_refl _) (by omega) (by rw [hz2]; omega) (by omega) (by simp) (fun _ => rfl) (fun a h => by cases h)
  rw [show Tryz.growI_ren.t 25 = 3 from rfl] at this
  refine Calls.mono this ?_
  rintro e w' ⟨rfl, rfl⟩
  have gm := grownCap_le_maxLen w (0 + n) 0 3 (by unfold maxLen; omega)
  have gc := grownCap_ge w (0 + n) 0 3
  generalize grownCap w (0 + n) 0 3 = G at *
  obtain ⟨A, hA⟩ : ∃ A : Array Value, A = ([] : List Value).toArray ++ Builtin.zeroCells (Value.int .i64 0).cells (0 + n - 0) ++ Builtin.zeroCells (Value.int .i64 0).cells (G - (0 + n)) := ⟨_, rfl⟩
  rw [← hA]
  have hs : A.size = G := by
    rw [hA]
    simp [Builtin.zeroCells, Value.cells]
    omega
  refine ⟨_, rfl, ⟨rfl, .inr ⟨w.heap.size, G, A, rfl, Nat.le_refl _, ?_, Nat.zero_le _, gm, by omega, by simp⟩⟩, ((Below.refl w.heap.size w).drew).alloc (Nat.le_refl _) _⟩
  show (w.heap.push _)[w.heap.size]? = _
  simp
end Go.Proofs.YtmdpdpbkbakidaaGreat
