/- Plain facts of layer 14: rods. No program stands in this text. -/
import Derived.Test.YtdpkochkpcjioabDoorDPA
namespace Go.Proofs.YtdpkochkpcjioabDoor

/-- a right rod -/
structure RR (l : List (Int × Int)) : Prop where
  n0 : 1 ≤ l.length
  n1 : l.length ≤ 128
  bh : ∀ i, i < l.length → 0 ≤ gX l i ∧ gX l i ≤ 200000
  bv : ∀ i, i < l.length → 1 ≤ gR l i ∧ gR l i ≤ 4294967296
  asc : ∀ i, i + 1 < l.length → gX l i < gX l (i + 1)
  up : ∀ i, i + 1 < l.length → gR l i < gR l (i + 1)
def rkOut (q : Int × Int) : Bool := decide (q.1 < 0) || decide (200000 < q.1) || decide (q.2 < 1) || decide (4294967296 < q.2)
def rrB (l : List (Int × Int)) : Nat → Bool
  | 0 => true
  | k + 1 => rrB l k && (decide (gX l k < gX l (k + 1)) && decide (gR l k < gR l (k + 1)))
theorem rrB_iff (l : List (Int × Int)) (k : Nat) : rrB l k = true ↔ ∀ i, i < k → gX l i < gX l (i + 1) ∧ gR l i < gR l (i + 1) := by
  induction k with
  | zero => simp [rrB]
  | succ k ih =>
    rw [rrB, Bool.and_eq_true, ih, Bool.and_eq_true, decide_eq_true_eq, decide_eq_true_eq]
    constructor
    · rintro ⟨h1, h2⟩ i hi
      by_cases e : i = k
      · rw [e]; exact h2
      · exact h1 i (by omega)
    · intro h
      exact ⟨fun i hi => h i (by omega), h k (by omega)⟩
/-- the first error of a rod -/
def roE (l : List (Int × Int)) : Int := if l.length = 0 then 9 else if 128 < l.length then 8 else if l.any rkOut = true then 2 else if rrB l (l.length - 1) = false then 5 else 0
theorem rkOut_not {q : Int × Int} : rkOut q = false ↔ (0 ≤ q.1 ∧ q.1 ≤ 200000) ∧ 1 ≤ q.2 ∧ q.2 ≤ 4294967296 := by
  unfold rkOut
  rw [Bool.or_eq_false_iff, Bool.or_eq_false_iff, Bool.or_eq_false_iff, decide_eq_false_iff_not, decide_eq_false_iff_not, decide_eq_false_iff_not, decide_eq_false_iff_not]
  omega
theorem roE_iff {l : List (Int × Int)} : roE l = 0 ↔ RR l := by
  unfold roE
  constructor
  · intro h
    split at h
    · omega
    · split at h
      · omega
      · split at h
        · omega
        · split at h
          · omega
          · rename_i h1 h2 h3 h4
            have hb : ∀ i, i < l.length → (0 ≤ gX l i ∧ gX l i ≤ 200000) ∧ 1 ≤ gR l i ∧ gR l i ≤ 4294967296 := fun i hi => by
              refine rkOut_not.1 ?_
              cases hq : rkOut (l.getD i (0, 0)) with
              | false => rfl
              | true => exact absurd (anyq_at.2 ⟨i, hi, hq⟩) h3
            have hr := (rrB_iff l (l.length - 1)).1 (by simpa using h4)
            exact ⟨by omega, by omega, fun i hi => (hb i hi).1, fun i hi => (hb i hi).2, fun i hi => (hr i (by omega)).1, fun i hi => (hr i (by omega)).2⟩
  · intro h
    have n0 := h.n0
    have n1 := h.n1
    rw [if_neg (by omega), if_neg (by omega), if_neg, if_neg]
    · rw [Bool.not_eq_false]
      exact (rrB_iff _ _).2 fun i hi => ⟨h.asc i (by omega), h.up i (by omega)⟩
    · intro hq
      obtain ⟨i, hi, hp⟩ := anyq_at.1 hq
      rw [rkOut_not.2 ⟨h.bh i hi, h.bv i hi⟩] at hp
      cases hp
/-! ### multiples -/
theorem dvs (v : Int) {s : Int} (hs : 1 ≤ s) : v / s * s ≤ v ∧ v < v / s * s + s := by
  have := Int.mul_ediv_add_emod v s
  have a := Int.emod_nonneg v (show s ≠ 0 by omega)
  have b := Int.emod_lt_of_pos v (show 0 < s by omega)
  rw [Int.mul_comm] at this
  omega
theorem dvs_le {u v s t : Int} (hs : 1 ≤ s) (e : u = t * s) (h : u ≤ v) : u ≤ v / s * s := by
  have := Int.le_ediv_of_mul_le (show 0 < s by omega) (show t * s ≤ v by omega)
  have := Int.mul_le_mul_of_nonneg_right this (show 0 ≤ s by omega)
  omega
theorem mul_next {a b s : Int} (hs : 1 ≤ s) (h : a * s < b * s) : a * s + s ≤ b * s := by
  have h1 : a < b := by
    rcases Int.lt_or_le a b with g | g
    · exact g
    · have := Int.mul_le_mul_of_nonneg_right g (show 0 ≤ s by omega); omega
  have := Int.mul_le_mul_of_nonneg_right (show a + 1 ≤ b by omega) (show 0 ≤ s by omega)
  rw [Int.add_mul, Int.one_mul] at this
  exact this
/-- the multiple that the k-th mark is looked for with -/
def rdV (l : List (Int × Int)) (s : Int) : Nat → Int
  | 0 => s
  | k + 1 => vl l (lsA l (rdV l s k)) / s * s + s
/-- the k-th mark -/
def rdM (l : List (Int × Int)) (s : Int) (k : Nat) : Int × Int := (lsA l (rdV l s k), vl l (lsA l (rdV l s k)) / s * s)
def rdS (l : List (Int × Int)) (s : Int) (k : Nat) : List (Int × Int) := (List.range k).map (rdM l s)
/-- how many marks there are, up to 129 -/
def rdC (l : List (Int × Int)) (s : Int) : Nat := fst (fun k => decide (gR l (l.length - 1) < rdV l s k)) 129
/-- what Make returns -/
def rmE (l : List (Int × Int)) (tol s : Int) : Int := if tbE l tol ≠ 0 then 1 else if s < 1 ∨ 1073741824 < s then 2 else if rdC l s = 0 then 9 else if 128 < rdC l s then 8 else 0
def rmL (l : List (Int × Int)) (tol s : Int) : List (Int × Int) := if rmE l tol s = 0 then rdS l s (rdC l s) else []
theorem rdV_mul (l : List (Int × Int)) (s : Int) (k : Nat) : ∃ t, rdV l s k = t * s := by
  cases k with
  | zero => exact ⟨1, by simp [rdV]⟩
  | succ k => exact ⟨vl l (lsA l (rdV l s k)) / s + 1, by rw [Int.add_mul, Int.one_mul]; rfl⟩
structure RdK (l : List (Int × Int)) (s : Int) (k : Nat) : Prop where
  h0 : gX l 0 ≤ lsA l (rdV l s k)
  h1 : lsA l (rdV l s k) ≤ gX l (l.length - 1)
  v0 : rdV l s k ≤ vl l (lsA l (rdV l s k))
  v1 : vl l (lsA l (rdV l s k)) ≤ gR l (l.length - 1)
  m0 : rdV l s k ≤ (rdM l s k).2
  m1 : (rdM l s k).2 ≤ vl l (lsA l (rdV l s k))
  m2 : vl l (lsA l (rdV l s k)) < (rdM l s k).2 + s
  nx : rdV l s (k + 1) = (rdM l s k).2 + s
  below : ∀ x, gX l 0 ≤ x → x < lsA l (rdV l s k) → vl l x < rdV l s k
theorem rd_k {l : List (Int × Int)} (h : MR l) {s : Int} (hs : 1 ≤ s) {k : Nat} (hk : rdV l s k ≤ gR l (l.length - 1)) : RdK l s k := by
  have sp := h.span
  have b := ls_bd h (rdV l s k)
  have e := vl_mark h (i := l.length - 1) (by have := h.n0; omega)
  have t := (ls_iff h (rdV l s k) (x := gX l (l.length - 1)) (by omega) (Int.le_refl _)).1 (by omega)
  have v := (ls_iff h (rdV l s k) b.1 t).2 (Int.le_refl _)
  have vb := vl_bd h b.1 t
  obtain ⟨q, hq⟩ := rdV_mul l s k
  have d := dvs (vl l (lsA l (rdV l s k))) hs
  refine ⟨b.1, t, v, vb.2, dvs_le hs hq v, d.1, d.2, rfl, fun x x0 x1 => ?_⟩
  have := ls_iff h (rdV l s k) x0 (show x ≤ gX l (l.length - 1) by omega)
  omega
theorem rd_lt {l : List (Int × Int)} {s : Int} {k : Nat} (hk : k < rdC l s) : rdV l s k ≤ gR l (l.length - 1) := by
  have := (fst_spec (fun k => decide (gR l (l.length - 1) < rdV l s k)) 129).1 k hk
  have := of_decide_eq_false this
  omega
theorem rd_up {l : List (Int × Int)} (h : MR l) {s : Int} (hs : 1 ≤ s) {k : Nat} (hk : rdV l s k ≤ gR l (l.length - 1)) : rdV l s k + s ≤ rdV l s (k + 1) := by
  have r := rd_k h hs hk
  have := r.nx; have := r.m0; omega
theorem rd_ge {l : List (Int × Int)} (h : MR l) {s : Int} (hs : 1 ≤ s) {k : Nat} (hk : k ≤ rdC l s) : s ≤ rdV l s k := by
  induction k with
  | zero => exact Int.le_refl _
  | succ k ih =>
    have := rd_up h hs (rd_lt (show k < rdC l s by omega))
    have := ih (by omega)
    omega
theorem rdS_at {l : List (Int × Int)} {s : Int} {n k : Nat} (hk : k < n) : gX (rdS l s n) k = lsA l (rdV l s k) ∧ gR (rdS l s n) k = (rdM l s k).2 := by
  have : (rdS l s n).getD k (0, 0) = rdM l s k := by
    unfold rdS
    rw [List.getD_eq_getElem?_getD, List.getElem?_map, List.getElem?_range hk]; rfl
  exact ⟨congrArg Prod.fst this, congrArg Prod.snd this⟩
theorem rdS_len (l : List (Int × Int)) (s : Int) (n : Nat) : (rdS l s n).length = n := by unfold rdS; rw [List.length_map, List.length_range]
theorem rdS_next (l : List (Int × Int)) (s : Int) (n : Nat) : rdS l s (n + 1) = rdS l s n ++ [rdM l s n] := by
  unfold rdS; rw [List.range_succ, List.map_append]; rfl
theorem rdM_mul (l : List (Int × Int)) (s : Int) (k : Nat) : (rdM l s k).2 = vl l (lsA l (rdV l s k)) / s * s := rfl
/-- the height of a later mark is greater -/
theorem rd_asc {l : List (Int × Int)} (h : MR l) {s : Int} (hs : 1 ≤ s) {k : Nat} (hk : k + 1 < rdC l s) : lsA l (rdV l s k) < lsA l (rdV l s (k + 1)) ∧ (rdM l s k).2 < (rdM l s (k + 1)).2 := by
  have a := rd_k h hs (rd_lt (show k < rdC l s by omega))
  have b := rd_k h hs (rd_lt hk)
  have a1 := a.nx
  have a2 := a.m2
  have b1 := b.m0
  refine ⟨?_, by omega⟩
  rcases Int.lt_or_le (lsA l (rdV l s k)) (lsA l (rdV l s (k + 1))) with g | g
  · exact g
  · have := (ls_iff h (rdV l s (k + 1)) a.h0 a.h1).2 g
    omega
theorem rd_right {l : List (Int × Int)} (h : MR l) {s : Int} (hs : 1 ≤ s) (h0 : rdC l s ≠ 0) (h1 : rdC l s ≤ 128) : RR (rdS l s (rdC l s)) := by
  have ln := rdS_len l s (rdC l s)
  have sp := h.span
  refine ⟨by omega, by omega, fun i hi => ?_, fun i hi => ?_, fun i hi => ?_, fun i hi => ?_⟩
  · rw [ln] at hi
    have r := rd_k h hs (rd_lt hi)
    rw [(rdS_at hi).1]
    have := r.h0; have := r.h1; omega
  · rw [ln] at hi
    have r := rd_k h hs (rd_lt hi)
    have g := rd_ge h hs (show i ≤ rdC l s by omega)
    have b := h.bv (l.length - 1) (by have := h.n0; omega)
    rw [(rdS_at hi).2]
    have := r.m0; have := r.m1; have := r.v1; omega
  · rw [ln] at hi
    rw [(rdS_at hi).1, (rdS_at (show i < rdC l s by omega)).1]
    exact (rd_asc h hs hi).1
  · rw [ln] at hi
    rw [(rdS_at hi).2, (rdS_at (show i < rdC l s by omega)).2]
    exact (rd_asc h hs hi).2
/-- behind the last mark there is no multiple -/
theorem rd_end {l : List (Int × Int)} {s : Int} (h1 : rdC l s ≤ 128) : gR l (l.length - 1) < rdV l s (rdC l s) :=
  of_decide_eq_true ((fst_spec (fun k => decide (gR l (l.length - 1) < rdV l s k)) 129).2 (show rdC l s < 129 by omega))
theorem rd_last {l : List (Int × Int)} (h : MR l) {s : Int} (hs : 1 ≤ s) (h0 : rdC l s ≠ 0) (h1 : rdC l s ≤ 128) : (rdM l s (rdC l s - 1)).2 = gR l (l.length - 1) / s * s := by
  have r := rd_k h hs (rd_lt (show rdC l s - 1 < rdC l s by omega))
  have e := rd_end h1
  have n := r.nx
  rw [Nat.sub_add_cancel (by omega)] at n
  have a := r.m1
  have b := r.v1
  have d := dvs (gR l (l.length - 1)) hs
  have u := dvs_le (v := gR l (l.length - 1)) hs (rdM_mul l s (rdC l s - 1)) (by omega)
  rcases Int.lt_or_le (rdM l s (rdC l s - 1)).2 (gR l (l.length - 1) / s * s) with g | g
  · have := mul_next hs (show (vl l (lsA l (rdV l s (rdC l s - 1))) / s) * s < (gR l (l.length - 1) / s) * s from g)
    have m := rdM_mul l s (rdC l s - 1)
    omega
  · omega
/-- each multiple has the height of a mark, whose volume is the greatest multiple there -/
theorem rd_each {l : List (Int × Int)} (h : MR l) {s : Int} (hs : 1 ≤ s) (h0 : rdC l s ≠ 0) (h1 : rdC l s ≤ 128) {v t : Int} (e : v = t * s) (v0 : s ≤ v) (v1 : v ≤ gR l (l.length - 1)) :
    ∃ j, j < rdC l s ∧ lsA l v = lsA l (rdV l s j) := by
  have la := rd_last h hs h0 h1
  have vl' := dvs_le hs e v1
  have ex : ∀ k, k < rdC l s → v ≤ (rdM l s k).2 → ∃ j, j < rdC l s ∧ v ≤ (rdM l s j).2 ∧ rdV l s j ≤ v := by
    intro k
    induction k with
    | zero => intro hk hv; exact ⟨0, hk, hv, v0⟩
    | succ k ih =>
      intro hk hv
      by_cases g : v ≤ (rdM l s k).2
      · exact ih (by omega) g
      · refine ⟨k + 1, hk, hv, ?_⟩
        have r := rd_k h hs (rd_lt (show k < rdC l s by omega))
        have n := r.nx
        have m := rdM_mul l s k
        have := mul_next hs (show (vl l (lsA l (rdV l s k)) / s) * s < t * s by omega)
        omega
  obtain ⟨j, hj, j1, j2⟩ := ex (rdC l s - 1) (by omega) (by omega)
  refine ⟨j, hj, ?_⟩
  have r := rd_k h hs (rd_lt hj)
  have a := (ls_iff h v r.h0 r.h1).1 (by have := r.m1; omega)
  have b := ls_up h j2
  omega
theorem rmE_zero {l : List (Int × Int)} {tol s : Int} : rmE l tol s = 0 ↔ tbE l tol = 0 ∧ (1 ≤ s ∧ s ≤ 1073741824) ∧ rdC l s ≠ 0 ∧ rdC l s ≤ 128 := by
  unfold rmE
  by_cases h : tbE l tol = 0
  · rw [if_neg (by simpa using h)]
    split
    · omega
    · split
      · omega
      · split <;> omega
  · rw [if_pos h]; omega
end Go.Proofs.YtdpkochkpcjioabDoor

