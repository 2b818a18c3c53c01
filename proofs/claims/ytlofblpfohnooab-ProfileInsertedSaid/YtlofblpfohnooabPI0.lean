/- Plain facts of a profile in which a point was inserted. No program stands in this text. -/
import Derived.Test.YtlofblpfohnooabPF
namespace Go.Proofs.Ytlofblpfohnooab

def ins (l : List (Int × Int)) (i : Nat) (q : Int × Int) : List (Int × Int) := l.take i ++ [q] ++ l.drop i
theorem ins_len {l : List (Int × Int)} {i : Nat} (q : Int × Int) (hi : i ≤ l.length) : (ins l i q).length = l.length + 1 := by
  unfold ins; simp only [List.length_append, List.length_take, List.length_drop, List.length_cons, List.length_nil]; omega
theorem ins_at {l : List (Int × Int)} {i : Nat} (q : Int × Int) (hi : i ≤ l.length) (j : Nat) : (ins l i q).getD j (0, 0) = if j < i then l.getD j (0, 0) else if j = i then q else l.getD (j - 1) (0, 0) := by
  unfold ins
  simp only [List.getD_eq_getElem?_getD]
  have e : (l.take i).length = i := by simp only [List.length_take]; omega
  by_cases a : j < i
  · rw [if_pos a, List.append_assoc, List.getElem?_append_left (by omega), List.getElem?_take, if_pos a]
  · rw [if_neg a, List.append_assoc, List.getElem?_append_right (by omega), e]
    by_cases b : j = i
    · rw [if_pos b, b, Nat.sub_self]; rfl
    · rw [if_neg b, show j - i = (j - i - 1) + 1 by omega]
      simp only [List.singleton_append, List.getElem?_cons_succ, List.getElem?_drop]
      rw [show i + (j - i - 1) = j - 1 by omega]
theorem ins_lo {l : List (Int × Int)} {i : Nat} (q : Int × Int) (hi : i ≤ l.length) {j : Nat} (h : j < i) : gX (ins l i q) j = gX l j ∧ gR (ins l i q) j = gR l j := by
  unfold gX gR; rw [ins_at q hi, if_pos h]; exact ⟨rfl, rfl⟩
theorem ins_mi {l : List (Int × Int)} {i : Nat} (q : Int × Int) (hi : i ≤ l.length) : gX (ins l i q) i = q.1 ∧ gR (ins l i q) i = q.2 := by
  unfold gX gR; rw [ins_at q hi, if_neg (by omega), if_pos rfl]; exact ⟨rfl, rfl⟩
theorem ins_hi {l : List (Int × Int)} {i : Nat} (q : Int × Int) (hi : i ≤ l.length) {j : Nat} (h : i ≤ j) : gX (ins l i q) (j + 1) = gX l j ∧ gR (ins l i q) (j + 1) = gR l j := by
  unfold gX gR; rw [ins_at q hi, if_neg (by omega), if_neg (by omega), Nat.add_sub_cancel]; exact ⟨rfl, rfl⟩

/-- a right profile l, a piece i of it, and a point (x, r) in it between its ends -/
structure InP (l : List (Int × Int)) (i : Nat) (x r : Int) : Prop where
  R : RP l
  n1 : l.length ≤ 31
  i1 : 1 ≤ i
  i2 : i < l.length
  a : gX l (i - 1) < x
  b : x < gX l i
  rr : r * (gX l i - gX l (i - 1)) = lnN (gX l (i - 1)) (gR l (i - 1)) (gX l i) (gR l i) x
  lo : min (gR l (i - 1)) (gR l i) ≤ r
  hi : r ≤ max (gR l (i - 1)) (gR l i)
/-- a piece of the new profile lies in a piece of the old one -/
theorem ins_seg {l : List (Int × Int)} {i : Nat} {x r : Int} (h : InP l i x r) (j : Nat) (hj : j < l.length) :
    gX (ins l i (x, r)) j < gX (ins l i (x, r)) (j + 1) ∧ (gR (ins l i (x, r)) (j + 1) < gR (ins l i (x, r)) j → gR l ((if j < i then j else j - 1) + 1) < gR l (if j < i then j else j - 1)) ∧ (gR l ((if j < i then j else j - 1) + 1) ≤ gR l (if j < i then j else j - 1) → gR (ins l i (x, r)) (j + 1) ≤ gR (ins l i (x, r)) j) ∧ (if j < i then j else j - 1) + 1 < l.length := by
  obtain ⟨R, n1, i1, i2, a, b, rr, lo, hi⟩ := h
  have n0 := R.n0
  have il : i ≤ l.length := by omega
  have M := ins_mi (x, r) il
  have L := fun k => ins_lo (x, r) il (j := k)
  have U := fun k => ins_hi (x, r) il (j := k)
  rcases Nat.lt_trichotomy (j + 1) i with g | g | g
  · rw [(L _ g).1, (L _ g).2, (L j (by omega)).1, (L j (by omega)).2, if_pos (by omega)]
    have := R.asc j (by omega)
    exact ⟨this, fun k => k, fun k => k, by omega⟩
  · obtain rfl : i = j + 1 := by omega
    rw [Nat.add_sub_cancel] at *
    rw [M.1, M.2, (L j (by omega)).1, (L j (by omega)).2, if_pos (by omega)]
    exact ⟨a, fun k => by simp only at k; omega, fun k => by simp only; omega, by omega⟩
  · by_cases e : j = i
    · subst e
      rw [M.1, M.2, (U j (by omega)).1, (U j (by omega)).2, if_neg (by omega), show j - 1 + 1 = j by omega]
      exact ⟨b, fun k => by simp only at k; omega, fun k => by simp only; omega, by omega⟩
    · have u1 := U j (by omega)
      have u2 := U (j - 1) (by omega)
      rw [show j - 1 + 1 = j by omega] at u2
      rw [u1.1, u1.2, u2.1, u2.2, if_neg (by omega), show j - 1 + 1 = j by omega]
      have := R.asc (j - 1) (by omega)
      rw [show j - 1 + 1 = j by omega] at this
      exact ⟨this, fun k => k, fun k => k, by omega⟩
theorem ins_pt {l : List (Int × Int)} {i : Nat} {x r : Int} (h : InP l i x r) (j : Nat) (hj : j < l.length + 1) :
    (gX (ins l i (x, r)) j = x ∧ gR (ins l i (x, r)) j = r) ∨ ∃ k, k < l.length ∧ gX (ins l i (x, r)) j = gX l k ∧ gR (ins l i (x, r)) j = gR l k := by
  have il : i ≤ l.length := by have := h.i2; omega
  rcases Nat.lt_trichotomy j i with g | g | g
  · exact .inr ⟨j, by omega, ins_lo _ il g⟩
  · subst g; exact .inl (ins_mi (x, r) il)
  · have := ins_hi (x, r) il (j := j - 1) (by omega)
    rw [show j - 1 + 1 = j by omega] at this
    exact .inr ⟨j - 1, by omega, this⟩
theorem ins_R {l : List (Int × Int)} {i : Nat} {x r : Int} (h : InP l i x r) : RP (ins l i (x, r)) := by
  have hS := ins_seg h
  have hP := ins_pt h
  obtain ⟨R, n1, i1, i2, a, b, rr, lo, hi⟩ := h
  have n0 := R.n0
  have il : i ≤ l.length := by omega
  have hl := ins_len (x, r) il
  have c1 := R.bx (i - 1) (by omega)
  have c2 := R.bx i i2
  have d1 := R.br (i - 1) (by omega)
  have d2 := R.br i i2
  refine ⟨by omega, by omega, fun j hj => ?_, fun j hj => ?_, ?_, fun j hj => (hS j (by omega)).1, fun j k jk hk hf => ?_⟩
  · rcases hP j (by omega) with ⟨e, _⟩ | ⟨k, hk, e, _⟩
    · rw [e]; omega
    · rw [e]; exact R.bx k hk
  · rcases hP j (by omega) with ⟨_, e⟩ | ⟨k, hk, _, e⟩
    · rw [e]; omega
    · rw [e]; exact R.br k hk
  · rw [(ins_lo (x, r) il (j := 0) (by omega)).1]; exact R.x0
  · have s1 := hS j (by omega)
    have s2 := hS k (by omega)
    refine s2.2.2.1 (R.ns _ _ ?_ s2.2.2.2 (s1.2.1 hf))
    split <;> split <;> omega
theorem ins_last {l : List (Int × Int)} {i : Nat} {x r : Int} (h : InP l i x r) : gX (ins l i (x, r)) ((ins l i (x, r)).length - 1) = gX l (l.length - 1) := by
  have i2 := h.i2
  have il : i ≤ l.length := by omega
  rw [ins_len (x, r) il]
  have := (ins_hi (x, r) il (j := l.length - 1) (by omega)).1
  rw [show l.length - 1 + 1 = l.length + 1 - 1 by omega] at this
  exact this
theorem ins_rd {l : List (Int × Int)} {i : Nat} {x r y : Int} (h : InP l i x r) (y0 : 0 ≤ y) (y1 : y ≤ gX l (l.length - 1)) :
    rdL (ins l i (x, r)) y = rdL l y ∧ rdH (ins l i (x, r)) y = rdH l y := by
  have hR := ins_R h
  obtain ⟨R, n1, i1, i2, a, b, rr, lo, hi⟩ := h
  have n0 := R.n0
  have il : i ≤ l.length := by omega
  have hl := ins_len (x, r) il
  have M := ins_mi (x, r) il
  have L := fun k => ins_lo (x, r) il (j := k)
  have U := fun k => ins_hi (x, r) il (j := k)
  have hy := pc_is n0 y1
  obtain ⟨p1, p2, p3, p4⟩ := hy
  have mle : ∀ s t, s ≤ t → t < l.length + 1 → gX (ins l i (x, r)) s ≤ gX (ins l i (x, r)) t := fun s t st ht => gX_le hR st (by omega)
  have y2 : pc l y = 1 ∨ gX l (pc l y - 1) < y := by
    by_cases e : pc l y = 1
    · exact .inl e
    · exact .inr (p4 _ (by omega) (by omega))
  have x0 := R.x0
  rcases Nat.lt_trichotomy (pc l y) i with g | g | g
  · have e1 : pc (ins l i (x, r)) y = pc l y := pc_of ⟨p1, by omega, by rw [(L _ g).1]; exact p3, fun j j1 j2 => by rw [(L j (by omega)).1]; exact p4 j j1 j2⟩
    unfold rdL rdH
    rw [e1, (L _ g).1, (L _ g).2, (L (pc l y - 1) (by omega)).1, (L (pc l y - 1) (by omega)).2]
    exact ⟨rfl, rfl⟩
  · by_cases e : y ≤ x
    · have e1 : pc (ins l i (x, r)) y = i := pc_of ⟨i1, by omega, by rw [M.1]; exact e, fun j j1 j2 => by rw [(L j j2).1]; exact p4 j j1 (by omega)⟩
      have P := ln_part1 (p := gR l (i - 1)) (q := gR l i) (x := y) (show gX l (i - 1) < gX l i by omega) a rr
      unfold rdL rdH lnL lnH
      rw [e1, M.1, M.2, (L (i - 1) (by omega)).1, (L (i - 1) (by omega)).2, g]
      exact P
    · have u := U i (by omega)
      have e1 : pc (ins l i (x, r)) y = i + 1 := pc_of ⟨by omega, by omega, by rw [u.1, ← g]; exact p3, fun j j1 j2 => by
        have := mle j i (by omega) (by omega)
        rw [M.1] at this
        simp only at this
        omega⟩
      have P := ln_part2 (p := gR l (i - 1)) (q := gR l i) (x := y) (show gX l (i - 1) < gX l i by omega) b rr
      unfold rdL rdH lnL lnH
      rw [e1, Nat.add_sub_cancel, M.1, M.2, u.1, u.2, g]
      exact P
  · have u1 := U (pc l y) (by omega)
    have u2 := U (pc l y - 1) (by omega)
    rw [show pc l y - 1 + 1 = pc l y by omega] at u2
    have e1 : pc (ins l i (x, r)) y = pc l y + 1 := pc_of ⟨by omega, by omega, by rw [u1.1]; exact p3, fun j j1 j2 => by
      have := mle j (pc l y) (by omega) (by omega)
      rw [u2.1] at this
      omega⟩
    unfold rdL rdH
    rw [e1, Nat.add_sub_cancel, u1.1, u1.2, u2.1, u2.2]
    exact ⟨rfl, rfl⟩
theorem ins_bg {l : List (Int × Int)} {i : Nat} {x r : Int} (h : InP l i x r) : gR (ins l i (x, r)) (bg (ins l i (x, r)) (ins l i (x, r)).length) = gR l (bg l l.length) := by
  have hR := ins_R h
  have hP := ins_pt h
  have il : i ≤ l.length := by have := h.i2; omega
  have hl := ins_len (x, r) il
  obtain ⟨a1, a2, _, _⟩ := bg_sides h.R
  obtain ⟨b1, b2, _, _⟩ := bg_sides hR
  have i1 := h.i1
  have i2 := h.i2
  have hi := h.hi
  have t1 := a2 (i - 1) (by omega)
  have t2 := a2 i i2
  have le : gR (ins l i (x, r)) (bg (ins l i (x, r)) (ins l i (x, r)).length) ≤ gR l (bg l l.length) := by
    rcases hP _ (show bg (ins l i (x, r)) (ins l i (x, r)).length < l.length + 1 by omega) with ⟨_, e⟩ | ⟨k, hk, _, e⟩
    · rw [e]; omega
    · rw [e]; exact a2 k hk
  have ge : gR l (bg l l.length) ≤ gR (ins l i (x, r)) (bg (ins l i (x, r)) (ins l i (x, r)).length) := by
    by_cases g : bg l l.length < i
    · have := b2 (bg l l.length) (by omega)
      rw [(ins_lo (x, r) il g).2] at this
      exact this
    · have := b2 (bg l l.length + 1) (by omega)
      rw [(ins_hi (x, r) il (j := bg l l.length) (by omega)).2] at this
      exact this
  omega
theorem fl_eq {n d : Int} (h : 0 < d) (e : n / d = cdv n d) : n / d * d = n := by
  have a := Int.ediv_mul_le n (show d ≠ 0 by omega)
  have b := cl_ge n d h
  rw [← e] at b
  omega
/-- what Insert gives, where it gives something -/
theorem ix_in {l : List (Int × Int)} {x : Int} (h : ixE l x = 0) : InP l (pc l x) x (rdL l x) ∧ ixL l x = ins l (pc l x) (x, rdL l x) ∧ plE l x = 0 := by
  have h0 := h
  unfold ixE at h
  split at h
  case isFalse g => exact absurd h g
  case isTrue g =>
    split at h
    · omega
    · rename_i g2
      split at h
      · omega
      · rename_i g3
        split at h
        · omega
        · rename_i g4
          obtain ⟨R, x0, x1⟩ := plE_zero.1 g
          have hi := pc_is R.n0 x1
          obtain ⟨i1, i2, d1, d2, d3, g0, g1⟩ := pc_bd R x0 hi
          have rb := rd_bd R x0 x1
          have n1 := R.n1
          have e3 : rdL l x = rdH l x := by omega
          have rr := fl_eq (n := lnN (gX l (pc l x - 1)) (gR l (pc l x - 1)) (gX l (pc l x)) (gR l (pc l x)) x) (d := gX l (pc l x) - gX l (pc l x - 1)) (by omega) e3
          refine ⟨⟨R, by omega, i1, i2, by omega, by omega, rr, rb.1, by omega⟩, ?_, g⟩
          unfold ixL
          rw [if_pos h0]; rfl
theorem ins_pl {l : List (Int × Int)} {i : Nat} {x r : Int} (h : InP l i x r) (y : Int) : plE (ins l i (x, r)) y = plE l y ∧ atL (ins l i (x, r)) y = atL l y ∧ atH (ins l i (x, r)) y = atH l y := by
  have hR := ins_R h
  have e : plE (ins l i (x, r)) y = plE l y := by
    unfold plE
    rw [(ckE_iff _).2 hR, (ckE_iff _).2 h.R, ins_last h]
  refine ⟨e, ?_⟩
  by_cases g : plE l y = 0
  · obtain ⟨_, y0, y1⟩ := plE_zero.1 g
    have s1 := at_some g
    have s2 := at_some (e.trans g)
    rw [s1.1, s1.2, s2.1, s2.2]
    exact ins_rd h y0 y1
  · have s1 := at_none g
    have s2 := at_none (l := ins l i (x, r)) (x := y) (by rw [e]; exact g)
    rw [s1.1, s1.2, s2.1, s2.2]
    exact ⟨rfl, rfl⟩
end Go.Proofs.Ytlofblpfohnooab
