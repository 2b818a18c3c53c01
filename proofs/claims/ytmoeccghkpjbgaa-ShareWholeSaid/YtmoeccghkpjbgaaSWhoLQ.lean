/-
  The statement ShareWhole of spile/spilelaw23 holds: for every input the call returns true, and each argument reads afterwards as it read before.
-/
import Derived.Test.YtmoeccghkpjbgaaM4
import Derived.Below
import Derived.Carry

set_option linter.unusedVariables false
set_option linter.unusedSimpArgs false

namespace Go.Proofs.Ytmoeccghkpjbgaa
open Go.RowKit

theorem SR.lt {s : List (Int × Int)} (h : SR s) : ∀ {j : Nat}, j < s.length → ∀ {i : Nat}, i < j → gX s i < gX s j := by
  intro j
  induction j with
  | zero => intro _ i hi; omega
  | succ j ih =>
    intro hj i hi
    have h1 := (shB_false.1 (h.ok (j + 1) hj)).2.1
    have h2 : pvF s (j + 1) = gX s j := rfl
    by_cases e : i = j
    · subst e; omega
    · have := ih (by omega) (show i < j by omega)
      omega
theorem wiS_ext (s : List (Int × Int)) (zs : List Int) (t : Nat) : ∀ d, ∃ T, wiS s zs (t + d) = wiS s zs t ++ T ∧ (∀ x ∈ T, ∃ j, t ≤ j ∧ j < t + d ∧ 0 < zs.getD j 0 ∧ x = (gX s j, zs.getD j 0)) ∧ (0 < d → 0 < zs.getD t 0 → ∃ T', T = (gX s t, zs.getD t 0) :: T')
  | 0 => ⟨[], by simp, fun x hx => (by cases hx), fun h => by omega⟩
  | d + 1 => by
    obtain ⟨T, e, hm, hh⟩ := wiS_ext s zs t d
    have es : wiS s zs (t + d + 1) = if 0 < zs.getD (t + d) 0 then wiS s zs (t + d) ++ [(gX s (t + d), zs.getD (t + d) 0)] else wiS s zs (t + d) := rfl
    by_cases h : 0 < zs.getD (t + d) 0
    · refine ⟨T ++ [(gX s (t + d), zs.getD (t + d) 0)], ?_, fun x hx => ?_, fun _ ht => ?_⟩
      · rw [← Nat.add_assoc, es, if_pos h, e, List.append_assoc]
      · rcases List.mem_append.1 hx with hx | hx
        · obtain ⟨j, j1, j2, j3, j4⟩ := hm x hx
          exact ⟨j, j1, by omega, j3, j4⟩
        · exact ⟨t + d, by omega, by omega, h, List.mem_singleton.1 hx⟩
      · by_cases hd : 0 < d
        · obtain ⟨T', e'⟩ := hh hd ht
          exact ⟨T' ++ [(gX s (t + d), zs.getD (t + d) 0)], by rw [e']; rfl⟩
        · have : d = 0 := by omega
          subst this
          have : T = [] := by
            rcases T with _ | ⟨x, T⟩
            · rfl
            · obtain ⟨j, j1, j2, _⟩ := hm x (by simp); omega
          subst this
          exact ⟨[], rfl⟩
    · refine ⟨T, ?_, fun x hx => ?_, fun _ ht => ?_⟩
      · rw [← Nat.add_assoc, es, if_neg h, e]
      · obtain ⟨j, j1, j2, j3, j4⟩ := hm x hx
        exact ⟨j, j1, by omega, j3, j4⟩
      · by_cases hd : 0 < d
        · exact hh hd ht
        · have : d = 0 := by omega
          subst this
          exact absurd ht h
theorem wiS_mem {s : List (Int × Int)} {zs : List Int} {n : Nat} {x : Int × Int} (hx : x ∈ wiS s zs n) : ∃ j, j < n ∧ 0 < zs.getD j 0 ∧ x = (gX s j, zs.getD j 0) := by
  obtain ⟨T, e, hm, _⟩ := wiS_ext s zs 0 n
  rw [Nat.zero_add] at e
  have e0 : wiS s zs 0 = [] := rfl
  rw [e0, List.nil_append] at e
  rw [e] at hx
  obtain ⟨j, _, j2, j3, j4⟩ := hm x hx
  exact ⟨j, by omega, j3, j4⟩
/-- the place behind the first t shares -/
theorem wiS_here {s : List (Int × Int)} {zs : List Int} {n t : Nat} (ht : t < n) (hz : 0 < zs.getD t 0) : (wiS s zs t).length < (wiS s zs n).length ∧ gX (wiS s zs n) (wiS s zs t).length = gX s t ∧ gR (wiS s zs n) (wiS s zs t).length = zs.getD t 0 := by
  obtain ⟨T, e, _, hh⟩ := wiS_ext s zs t (n - t)
  obtain ⟨T', rfl⟩ := hh (by omega) hz
  rw [show t + (n - t) = n by omega] at e
  have g : (wiS s zs n)[(wiS s zs t).length]? = some (gX s t, zs.getD t 0) := by rw [e]; simp
  refine ⟨by rw [e]; simp, ?_, ?_⟩
  · unfold gX at g ⊢; rw [List.getD_eq_getElem?_getD, g]; rfl
  · unfold gR; rw [List.getD_eq_getElem?_getD, g]; rfl
theorem wiS_next {s : List (Int × Int)} {zs : List Int} {n t : Nat} (hs : ∀ j, t < j → j < n → gX s t < gX s j) (ht : t < n) (hz : ¬ 0 < zs.getD t 0) : (wiS s zs t).length = (wiS s zs n).length ∨ ((wiS s zs t).length < (wiS s zs n).length ∧ gX s t < gX (wiS s zs n) (wiS s zs t).length) := by
  obtain ⟨T, e, hm, _⟩ := wiS_ext s zs t (n - t)
  rw [show t + (n - t) = n by omega] at e
  rcases T with _ | ⟨x, T⟩
  · left; rw [e]; simp
  · right
    obtain ⟨j, j1, j2, j3, j4⟩ := hm x (by simp)
    have g : (wiS s zs n)[(wiS s zs t).length]? = some x := by rw [e]; simp
    refine ⟨by rw [e]; simp, ?_⟩
    have : t ≠ j := fun e => by subst e; exact hz j3
    have hlt := hs j (by omega) (by omega)
    have g2 : gX (wiS s zs n) (wiS s zs t).length = x.1 := by unfold gX; rw [List.getD_eq_getElem?_getD, g]; rfl
    rw [g2, j4]
    exact hlt
theorem wiS_succ_len (s : List (Int × Int)) (zs : List Int) (t : Nat) : (wiS s zs (t + 1)).length = (wiS s zs t).length + if 0 < zs.getD t 0 then 1 else 0 := by
  show (if 0 < zs.getD t 0 then wiS s zs t ++ [(gX s t, zs.getD t 0)] else wiS s zs t).length = _
  split <;> simp
/-- joined, both are the shares -/
theorem jst_wi {s : List (Int × Int)} (h : SR s) {D S : List Int} (hD : ∀ j, j < s.length → 0 ≤ D.getD j 0 ∧ 0 ≤ S.getD j 0 ∧ D.getD j 0 + S.getD j 0 = gR s j) :
    ∀ t, t ≤ s.length → jst (wiS s D s.length) (wiS s S s.length) t = ((wiS s D t).length, (wiS s S t).length, s.take t)
  | 0, _ => by simp [jst, wiS]
  | t + 1, ht => by
    have ih := jst_wi h hD t (by omega)
    obtain ⟨d0, s0, e0⟩ := hD t (by omega)
    have p := (shB_false.1 (h.ok t (by omega))).2.2.1
    have hlt : ∀ j, t < j → j < s.length → gX s t < gX s j := fun j h1 h2 => h.lt h2 h1
    have l1 := wiS_succ_len s D t
    have l2 := wiS_succ_len s S t
    unfold jst
    rw [ih]
    simp only
    rw [getD_drop' s t (by omega), l1, l2]
    by_cases a : 0 < D.getD t 0
    · obtain ⟨a1, a2, a3⟩ := wiS_here (s := s) (zs := D) (n := s.length) (t := t) (by omega) a
      rw [if_pos (.inl a1), if_pos a]
      by_cases b : 0 < S.getD t 0
      · obtain ⟨b1, b2, b3⟩ := wiS_here (s := s) (zs := S) (n := s.length) (t := t) (by omega) b
        have E : jstep (wiS s D s.length) (wiS s S s.length) (wiS s D t).length (wiS s S t).length = ((gX s t, gR s t), (wiS s D t).length + 1, (wiS s S t).length + 1) := by
          unfold jstep
          rw [if_neg (by rintro (q | ⟨_, q⟩) <;> omega), if_neg (by rintro (q | q) <;> omega), a2, a3, b3, e0]
        rw [E, if_pos b]
      · have E : jstep (wiS s D s.length) (wiS s S s.length) (wiS s D t).length (wiS s S t).length = ((gX s t, gR s t), (wiS s D t).length + 1, (wiS s S t).length) := by
          unfold jstep
          rw [if_pos (by
            rcases wiS_next (s := s) (zs := S) (n := s.length) (t := t) hlt (by omega) b with q | ⟨_, q⟩
            · exact .inl q
            · exact .inr ⟨a1, by omega⟩), a2, a3, show D.getD t 0 = gR s t by omega]
        rw [E, if_neg b]
        rfl
    · have b : 0 < S.getD t 0 := by omega
      obtain ⟨b1, b2, b3⟩ := wiS_here (s := s) (zs := S) (n := s.length) (t := t) (by omega) b
      rw [if_pos (.inr b1), if_neg a]
      have E : jstep (wiS s D s.length) (wiS s S s.length) (wiS s D t).length (wiS s S t).length = ((gX s t, gR s t), (wiS s D t).length, (wiS s S t).length + 1) := by
        unfold jstep
        have nx := wiS_next (s := s) (zs := D) (n := s.length) (t := t) hlt (by omega) a
        rw [if_neg (by rcases nx with q | ⟨q1, q⟩ <;> rintro (r | ⟨r1, r⟩) <;> omega), if_pos (by
          rcases nx with q | ⟨_, q⟩
          · exact .inl q
          · exact .inr (by omega)), b2, b3, show S.getD t 0 = gR s t by omega]
      rw [E, if_pos b]
      rfl
theorem jn_wi {s : List (Int × Int)} (h : SR s) {D S : List Int} (hD : ∀ j, j < s.length → 0 ≤ D.getD j 0 ∧ 0 ≤ S.getD j 0 ∧ D.getD j 0 + S.getD j 0 = gR s j) : jn (wiS s D s.length) (wiS s S s.length) = s := by
  have e := jst_wi h hD s.length (Nat.le_refl _)
  rw [List.take_length] at e
  have hs := jst_stable (l := wiS s D s.length) (m := wiS s S s.length) (t := s.length) (by rw [e]; simp)
  have n1 := wiS_len s D s.length
  unfold jn
  by_cases hle : s.length ≤ (wiS s D s.length).length + (wiS s S s.length).length
  · have := hs ((wiS s D s.length).length + (wiS s S s.length).length - s.length)
    rw [show s.length + ((wiS s D s.length).length + (wiS s S s.length).length - s.length) = (wiS s D s.length).length + (wiS s S s.length).length by omega] at this
    rw [this, e]
  · exfalso
    have : ∀ t, t ≤ s.length → t ≤ (wiS s D t).length + (wiS s S t).length := by
      intro t
      induction t with
      | zero => intro _; omega
      | succ t ih =>
        intro ht
        have := ih (by omega)
        have l1 := wiS_succ_len s D t
        have l2 := wiS_succ_len s S t
        obtain ⟨d0, s0, e0⟩ := hD t (by omega)
        have p := (shB_false.1 (h.ok t (by omega))).2.2.1
        by_cases a : 0 < D.getD t 0
        · rw [if_pos a] at l1; split at l2 <;> omega
        · have b : 0 < S.getD t 0 := by omega
          rw [if_pos b] at l2; split at l1 <;> omega
    have := this s.length (Nat.le_refl _)
    omega
theorem wiS_sm (s : List (Int × Int)) (zs : List Int) : ∀ k, k ≤ zs.length → (∀ j, j < k → 0 ≤ zs.getD j 0) → sm fM (wiS s zs k) = (zs.take k).sum
  | 0, _, _ => by simp [wiS, sm]
  | k + 1, hk, h => by
    have ih := wiS_sm s zs k (by omega) (fun j hj => h j (by omega))
    have h0 := h k (by omega)
    rw [sum_take_succ zs k (by omega)]
    show sm fM (if 0 < zs.getD k 0 then wiS s zs k ++ [(gX s k, zs.getD k 0)] else wiS s zs k) = _
    by_cases a : 0 < zs.getD k 0
    · rw [if_pos a, ← ih]
      unfold sm
      rw [List.map_append, List.sum_append]
      simp [fM]
    · rw [if_neg a, ih]; omega
/-- what is taken of right shares is right -/
theorem wiS_right {s : List (Int × Int)} (h : SR s) {zs : List Int} (hz : ∀ j, j < s.length → 0 ≤ zs.getD j 0 ∧ zs.getD j 0 ≤ gR s j) : ∀ n, n ≤ s.length → ∀ k, k < (wiS s zs n).length → shB (wiS s zs n) k = false
  | 0, _, k, hk => by simp [wiS] at hk
  | n + 1, hn, k, hk => by
    have ih := wiS_right h hz n (by omega)
    have hx : wiS s zs (n + 1) = if 0 < zs.getD n 0 then wiS s zs n ++ [(gX s n, zs.getD n 0)] else wiS s zs n := rfl
    by_cases a : 0 < zs.getD n 0
    · rw [if_pos a] at hx
      rw [hx] at hk ⊢
      have gl : ∀ i, i < (wiS s zs n).length → gX (wiS s zs n ++ [(gX s n, zs.getD n 0)]) i = gX (wiS s zs n) i ∧ gR (wiS s zs n ++ [(gX s n, zs.getD n 0)]) i = gR (wiS s zs n) i := fun i hi => by
        unfold gX gR
        simp only [List.getD_eq_getElem?_getD, List.getElem?_append_left hi]
        exact ⟨trivial, trivial⟩
      have gn : gX (wiS s zs n ++ [(gX s n, zs.getD n 0)]) (wiS s zs n).length = gX s n ∧ gR (wiS s zs n ++ [(gX s n, zs.getD n 0)]) (wiS s zs n).length = zs.getD n 0 := by
        have g : (wiS s zs n ++ [(gX s n, zs.getD n 0)])[(wiS s zs n).length]? = some (gX s n, zs.getD n 0) := by simp
        constructor
        · show ((wiS s zs n ++ [(gX s n, zs.getD n 0)]).getD (wiS s zs n).length (0, 0)).1 = _
          rw [List.getD_eq_getElem?_getD, g]; rfl
        · show ((wiS s zs n ++ [(gX s n, zs.getD n 0)]).getD (wiS s zs n).length (0, 0)).2 = _
          rw [List.getD_eq_getElem?_getD, g]; rfl
      have pv : ∀ i, i ≤ (wiS s zs n).length → pvF (wiS s zs n ++ [(gX s n, zs.getD n 0)]) i = pvF (wiS s zs n) i := fun i hi => by
        unfold pvF
        by_cases e : i = 0
        · rw [if_pos e, if_pos e]
        · rw [if_neg e, if_neg e]; exact (gl (i - 1) (by omega)).1
      by_cases hlt : k < (wiS s zs n).length
      · have q := shB_false.1 (ih k hlt)
        rw [shB_false, (gl k hlt).1, (gl k hlt).2, pv k (by omega)]
        exact q
      · have e : k = (wiS s zs n).length := by simp at hk; omega
        subst e
        have q := shB_false.1 (h.ok n (by omega))
        have q2 := hz n (by omega)
        rw [shB_false, gn.1, gn.2, pv _ (Nat.le_refl _)]
        refine ⟨q.1, ?_, by omega, by omega⟩
        unfold pvF
        by_cases e : (wiS s zs n).length = 0
        · rw [if_pos e]; omega
        · rw [if_neg e]
          have hm : (wiS s zs n)[(wiS s zs n).length - 1]'(by omega) ∈ wiS s zs n := List.getElem_mem _
          obtain ⟨j, j1, _, j3⟩ := wiS_mem hm
          have g : gX (wiS s zs n) ((wiS s zs n).length - 1) = gX s j := by
            unfold gX
            rw [List.getD_eq_getElem?_getD, List.getElem?_eq_getElem (by omega), Option.getD_some, j3]
            rfl
          rw [g]
          exact h.lt (by omega) j1
    · rw [if_neg a] at hx
      rw [hx] at hk ⊢
      exact ih k hk
end Go.Proofs.Ytmoeccghkpjbgaa

namespace Go.Proofs.Ytmoeccghkpjbgaa.shareWhole
open Go.ChangeShapes Go.WideShapes Go.ChangeAt Go.RowKit
open Go.ChangeMaps (open_string shut_string)
set_option linter.unusedVariables false

theorem dr_near {s : List (Int × Int)} (h : SR s) {a : Int} (a0 : 0 ≤ a) (a1 : a ≤ sm fM s) {i : Nat} (hi : i < s.length) :
    0 ≤ (drawD (amS s) a).getD i 0 ∧ (drawD (amS s) a).getD i 0 ≤ gR s i ∧ (drawS (amS s) a).getD i 0 = gR s i - (drawD (amS s) a).getD i 0 ∧ (drawD (amS s) a).getD i 0 * sm fM s - a * gR s i < sm fM s ∧ -(sm fM s) < (drawD (amS s) a).getD i 0 * sm fM s - a * gR s i := by
  have h0 : 0 < s.length := by omega
  have e := h.drw h0 a0 a1
  have hd := h.div h0 (a := a) (by rw [isAm_iff]; have := h.sum; omega)
  have eD : drawD (amS s) a = divP a (amS s) := by unfold drawD; rw [if_pos e]
  have eS : drawS (amS s) a = List.zipWith (· - ·) (amS s) (divP a (amS s)) := by unfold drawS; rw [if_pos e]
  have hle := divP_le a (amS s) hd (by rw [amS_sum]; exact a1) i (by rw [amS_len]; exact hi)
  have lz := divP_len a (amS s) hd
  have hz := zipSub_get (amS s) (divP a (amS s)) i (by rw [amS_len]; exact hi) (by rw [lz, amS_len]; exact hi)
  have I := (div_inv a (amS s) hd).each i (by simp [divR, amS_len]; exact hi)
  rw [divQ_get a (amS s) i (by rw [amS_len]; exact hi), divR_get a (amS s) i (by rw [amS_len]; exact hi), amS_get, amS_sum] at I
  rw [amS_get] at hle hz
  rw [eD, eS, hz]
  have W0 := h.pos h0
  have e2 := Int.emod_add_mul_ediv (a * gR s i) (sm fM s)
  have r0 := Int.emod_nonneg (a * gR s i) (show sm fM s ≠ 0 by omega)
  have r1 := Int.emod_lt_of_pos (a * gR s i) W0
  refine ⟨hle.1, hle.2, rfl, ?_⟩
  generalize (divP a (amS s)).getD i 0 = D at *
  generalize a * gR s i = m at *
  generalize sm fM s = S at *
  have c : S * (m / S) = m / S * S := Int.mul_comm _ _
  rcases I with ⟨_, q⟩ | ⟨_, q0, q⟩
  · rw [q]; omega
  · rw [q, Int.add_mul, Int.one_mul]; omega
theorem dr_sum {s : List (Int × Int)} (h : SR s) {a : Int} (a0 : 0 ≤ a) (a1 : a ≤ sm fM s) : (drawD (amS s) a).sum = a := by
  by_cases h0 : 0 < s.length
  · have e := h.drw h0 a0 a1
    have hd := h.div h0 (a := a) (by rw [isAm_iff]; have := h.sum; omega)
    unfold drawD
    rw [if_pos e]
    exact divP_sum a _ hd
  · have e := (h.lens a0 a1).1
    have e2 : drawD (amS s) a = [] := List.length_eq_zero_iff.1 (by omega)
    have e3 : s = [] := List.length_eq_zero_iff.1 (by omega)
    subst e3
    rw [e2]
    simp [sm] at a1
    simp; omega
structure WH (s : List (Int × Int)) (a : Int) (A B : List (Int × Int)) (D : List Int) : Prop where
  sa : suF A = a
  sg : suG A = 0
  je : jnE A B = 0
  jl : jnL A B = s
  len : A.length ≤ 32
  near : ∀ i, i < s.length → 0 ≤ D.getD i 0 ∧ D.getD i 0 ≤ gR s i ∧ D.getD i 0 * sm fM s - a * gR s i < sm fM s ∧ -(sm fM s) < D.getD i 0 * sm fM s - a * gR s i
  here : ∀ i, i < s.length → (∀ q, q < A.length → gX A q = gX s i → gR A q = D.getD i 0) ∧ (D.getD i 0 = 0 ∨ ∃ q, q < A.length ∧ gX A q = gX s i)
theorem wh_of {s : List (Int × Int)} (h : SR s) {a : Int} (a0 : 0 ≤ a) (a1 : a ≤ sm fM s) : WH s a (tkA s a) (tkB s a) (drawD (amS s) a) := by
  have e0 : tkE s a = 0 := tkE_zero.2 ⟨h, a0, a1⟩
  have eA : tkA s a = wiS s (drawD (amS s) a) s.length := by unfold tkA; rw [if_pos e0]
  have eB : tkB s a = wiS s (drawS (amS s) a) s.length := by unfold tkB; rw [if_pos e0]
  obtain ⟨lD, lS⟩ := h.lens a0 a1
  have nr := fun i hi => dr_near h a0 a1 (i := i) hi
  have ds := dr_sum h a0 a1
  rw [eA, eB]
  generalize drawD (amS s) a = D at *
  generalize drawS (amS s) a = S at *
  have n1 := wiS_len s D s.length
  have n2 := wiS_len s S s.length
  have hl := h.len
  have hDS : ∀ j, j < s.length → 0 ≤ D.getD j 0 ∧ 0 ≤ S.getD j 0 ∧ D.getD j 0 + S.getD j 0 = gR s j := fun j hj => by
    obtain ⟨p1, p2, p3, _⟩ := nr j hj
    omega
  have rA := wiS_right h (zs := D) (fun j hj => by have := nr j hj; omega) s.length (Nat.le_refl _)
  have rB := wiS_right h (zs := S) (fun j hj => by have := nr j hj; omega) s.length (Nat.le_refl _)
  have mA := wiS_sm s D s.length (by omega) (fun j hj => (nr j hj).1)
  have mB := wiS_sm s S s.length (by omega) (fun j hj => by have := nr j hj; omega)
  rw [List.take_of_length_le (by omega), ds] at mA
  have J := jn_wi h hDS
  have hs := h.sum
  have smB : sm fM (wiS s S s.length) ≤ sm fM s := by
    have key : ∀ k, k ≤ s.length → (S.take k).sum ≤ sm fM (s.take k) := by
      intro k
      induction k with
      | zero => intro _; simp [sm]
      | succ k ih =>
        intro hk
        have := ih (by omega)
        have s1 : sm fM (s.take (k + 1)) = sm fM (s.take k) + gR s k := sm_step fM s k (by omega)
        have s2 := sum_take_succ S k (by omega)
        have := nr k (by omega)
        omega
    have := key s.length (Nat.le_refl _)
    rw [sm_full fM s] at this
    omega
  have SA : SR (wiS s D s.length) := ⟨by omega, rA, by omega⟩
  have SB : SR (wiS s S s.length) := ⟨by omega, rB, by omega⟩
  have cA := scE_zero.2 SA
  have cB := scE_zero.2 SB
  have jE : jnE (wiS s D s.length) (wiS s S s.length) = 0 := by
    unfold jnE
    rw [if_neg (by rw [cA, cB]; simp), J, if_neg (by omega), if_neg (by omega)]
  refine ⟨by unfold suF; rw [if_pos cA, mA], by unfold suG; rw [if_pos cA], jE, by unfold jnL; rw [jE, if_pos rfl, J], by omega, fun i hi => by obtain ⟨p1, p2, _, p3, p4⟩ := nr i hi; exact ⟨p1, p2, p3, p4⟩, fun i hi => ⟨fun q hq e => ?_, ?_⟩⟩
  · have hm : (wiS s D s.length)[q] ∈ wiS s D s.length := List.getElem_mem _
    obtain ⟨j, j1, j2, j3⟩ := wiS_mem hm
    have g1 : gX (wiS s D s.length) q = gX s j := by unfold gX; rw [List.getD_eq_getElem?_getD, List.getElem?_eq_getElem hq, Option.getD_some, j3]; rfl
    have g2 : gR (wiS s D s.length) q = D.getD j 0 := by unfold gR; rw [List.getD_eq_getElem?_getD, List.getElem?_eq_getElem hq, Option.getD_some, j3]
    rw [g1] at e
    have : j = i := by
      rcases Nat.lt_trichotomy j i with l | l | l
      · have := h.lt hi l; omega
      · exact l
      · have := h.lt j1 l; omega
    rw [g2, this]
  · by_cases p : 0 < D.getD i 0
    · obtain ⟨a1, a2, _⟩ := wiS_here (s := s) (zs := D) (n := s.length) (t := i) hi p
      exact .inr ⟨_, a1, a2⟩
    · have := (nr i hi).1
      exact .inl (by omega)
/-- the alcohol of a fill among the first shares -/
def ptF (A : List (Int × Int)) (X : Int) : Nat → Int
  | 0 => 0
  | q + 1 => if gX A q = X then gR A q else ptF A X q
theorem ptF_is {A : List (Int × Int)} {X d : Int} (h1 : ∀ q, q < A.length → gX A q = X → gR A q = d) (h2 : d = 0 ∨ ∃ q, q < A.length ∧ gX A q = X) : ptF A X A.length = d := by
  have key : ∀ q, q ≤ A.length → ptF A X q = d ∨ (ptF A X q = 0 ∧ ∀ r, r < q → gX A r ≠ X) := by
    intro q
    induction q with
    | zero => intro _; exact .inr ⟨rfl, fun r hr => by omega⟩
    | succ q ih =>
      intro hq
      show (if gX A q = X then gR A q else ptF A X q) = d ∨ ((if gX A q = X then gR A q else ptF A X q) = 0 ∧ _)
      by_cases e : gX A q = X
      · rw [if_pos e]; exact .inl (h1 q (by omega) e)
      · rw [if_neg e]
        rcases ih (by omega) with g | ⟨g, g2⟩
        · exact .inl g
        · refine .inr ⟨g, fun r hr => ?_⟩
          by_cases er : r = q
          · subst er; exact e
          · exact g2 r (by omega)
  rcases key A.length (Nat.le_refl _) with g | ⟨g, g2⟩
  · exact g
  · rcases h2 with h2 | ⟨q, hq, e⟩
    · omega
    · exact absurd e (g2 q hq)
set_option maxHeartbeats 4000000 in
theorem few (a : Option Addr) (n cap : Nat) (k : Int) (w : World) (h : fwS n = false) :
    Calls Try.prog 6 #[.slice a n cap, .int .i64 k] w fun e w' => e = .returned (.bool true) ∧ Below w.heap.size w w' := by
  have HF := Lib.hid (fun W => rlFs_any a n cap W)
  rw [h] at HF
  have HB := Lib.hid (Below.refl w.heap.size w)
  go_enter Try.func6, Try.ntmps6
  go_wp2_with fail
  refine (awakeS_any w).mono ?_
  rintro e w1 ⟨rfl, h1⟩
  replace HB := Lib.hid (bel_trans HB.out h1); clear h1
  go_wp2_with fail
  refine (HF.out _).mono ?_
  rintro e w2 ⟨rfl, h1⟩
  replace HB := Lib.hid (bel_trans HB.out h1); clear h1
  go_wp2
  go_returns
  exact ⟨rfl, HB.out⟩
set_option maxHeartbeats 8000000 in
set_option maxRecDepth 100000 in
theorem bad (a : Option Addr) (n cap : Nat) (k TE : Int) (s A B : List (Int × Int)) (w : World) (NV : Hid (Pts w (.slice a n cap) s)) (hf : fwS n = true) (hE : (TE != 0) = true) (hA : A = []) (hB : B = [])
    (C1 : Hid (∀ W, Pts W (.slice a n cap) s → Calls Try.prog 14 #[.slice a n cap, .int .i64 k] W fun e w' => (∃ u1 u2, e = .returned (.tuple #[u1, u2, .int .i64 TE]) ∧ RH.Sh w' W.heap.size u1 A ∧ RH.Sh w' W.heap.size u2 B) ∧ Below W.heap.size W w')) :
    Calls Try.prog 6 #[.slice a n cap, .int .i64 k] w fun e w' => e = .returned (.bool true) ∧ Below w.heap.size w w' := by
  have HF := Lib.hid (fun W => rlFs_any a n cap W)
  rw [hf] at HF

  have HB := Lib.hid (Below.refl w.heap.size w)
  go_enter Try.func6, Try.ntmps6
  go_wp2_with fail
  refine (awakeS_any w).mono ?_
  rintro e w1 ⟨rfl, h1⟩
  replace NV := Lib.hid (NV.out.below h1)
  replace HB := Lib.hid (bel_trans HB.out h1); clear h1
  go_wp2_with fail
  refine (HF.out _).mono ?_
  rintro e w2 ⟨rfl, h1⟩
  replace NV := Lib.hid (NV.out.below h1)
  replace HB := Lib.hid (bel_trans HB.out h1); clear h1
  go_wp2_with fail
  refine (C1.out _ NV.out).mono ?_
  rintro e w3 ⟨⟨uA, uB, rfl, g1, g2⟩, h1⟩
  replace NV := Lib.hid (NV.out.below h1)
  replace HB := Lib.hid (bel_trans HB.out h1); clear h1
  have NA := Lib.hid g1.pts
  have NB := Lib.hid g2.pts
  clear g1 g2
  subst hA hB
  obtain ⟨aa, ca, rfl, _, _⟩ := NA.out
  obtain ⟨ab, cb, rfl, _, _⟩ := NB.out
  go_wp2
  go_returns
  exact ⟨rfl, HB.out⟩
set_option maxHeartbeats 32000000 in
set_option maxRecDepth 100000 in
theorem good (a : Option Addr) (n cap : Nat) (k : Int) (s A B : List (Int × Int)) (w : World) (NV : Hid (Pts w (.slice a n cap) s)) (hf : fwS n = true) (T : Int) (D : List Int) (hsl : Hid (s.length = n)) (n1 : n ≤ 32) (la : A.length ≤ 32) (hT : 0 ≤ T) (k0 : 0 ≤ k) (k1 : k ≤ T)
    (hNear : Hid (∀ i, i < n → 0 ≤ D.getD i 0 ∧ D.getD i 0 ≤ gR s i ∧ D.getD i 0 * T - k * gR s i < T ∧ -T < D.getD i 0 * T - k * gR s i)) (hBd : Hid (∀ i, i < n → 1 ≤ gR s i ∧ gR s i ≤ T)) (hPt : Hid (∀ i, i < n → ptF A (gX s i) A.length = D.getD i 0))
    (C1 : Hid (∀ W, Pts W (.slice a n cap) s → Calls Try.prog 14 #[.slice a n cap, .int .i64 k] W fun e w' => (∃ u1 u2, e = .returned (.tuple #[u1, u2, .int .i64 0]) ∧ RH.Sh w' W.heap.size u1 A ∧ RH.Sh w' W.heap.size u2 B) ∧ Below W.heap.size W w'))
    (C2 : Hid (∀ u W, Pts W u A → Calls Try.prog 12 #[u] W fun e w' => e = .returned (.tuple #[.int .i64 k, .int .i64 0]) ∧ Below W.heap.size W w'))
    (C3 : Hid (∀ u v W, Pts W u A → Pts W v B → Calls Try.prog 22 #[u, v] W fun e w' => ∃ x, e = .returned (.tuple #[x, .int .i64 0]) ∧ RH.Sh w' W.heap.size x s ∧ Below W.heap.size W w'))
    (C4 : Hid (∀ W, Pts W (.slice a n cap) s → Calls Try.prog 12 #[.slice a n cap] W fun e w' => e = .returned (.tuple #[.int .i64 T, .int .i64 0]) ∧ Below W.heap.size W w')) :
    Calls Try.prog 6 #[.slice a n cap, .int .i64 k] w fun e w' => e = .returned (.bool true) ∧ Below w.heap.size w w' := by
  have HF := Lib.hid (fun W => rlFs_any a n cap W)
  rw [hf] at HF
  have EJ := Lib.hid (fun v u W h h' => rlSs_any v u s s W h h' (by rw [hsl.out]; omega))
  rw [show (s == s) = true by simp] at EJ
  have HB := Lib.hid (Below.refl w.heap.size w)
  go_enter Try.func6, Try.ntmps6
  go_wp2_with fail
  refine (awakeS_any w).mono ?_
  rintro e w1 ⟨rfl, h1⟩
  replace NV := Lib.hid (NV.out.below h1)
  replace HB := Lib.hid (bel_trans HB.out h1); clear h1
  go_wp2_with fail
  refine (HF.out _).mono ?_
  rintro e w2 ⟨rfl, h1⟩
  replace NV := Lib.hid (NV.out.below h1)
  replace HB := Lib.hid (bel_trans HB.out h1); clear h1
  go_wp2_with fail
  refine (C1.out _ NV.out).mono ?_
  rintro e w3 ⟨⟨uA, uB, rfl, g1, g2⟩, h1⟩
  replace NV := Lib.hid (NV.out.below h1)
  replace HB := Lib.hid (bel_trans HB.out h1); clear h1
  have NA := Lib.hid g1.pts
  have NB := Lib.hid g2.pts
  clear g1 g2
  go_wp2_with fail
  refine (C2.out _ _ NA.out).mono ?_
  rintro e w4 ⟨rfl, h1⟩
  replace NV := Lib.hid (NV.out.below h1)
  replace NA := Lib.hid (NA.out.below h1)
  replace NB := Lib.hid (NB.out.below h1)
  replace HB := Lib.hid (bel_trans HB.out h1); clear h1
  go_wp2_with fail
  refine (C3.out _ _ _ NA.out NB.out).mono ?_
  rintro e w5 ⟨uJ, rfl, g1, h1⟩
  replace NV := Lib.hid (NV.out.below h1)
  replace NA := Lib.hid (NA.out.below h1)
  replace NB := Lib.hid (NB.out.below h1)
  replace HB := Lib.hid (bel_trans HB.out h1); clear h1
  have NJ := Lib.hid g1.pts
  clear g1
  go_wp2_with fail
  refine (C4.out _ NV.out).mono ?_
  rintro e w6 ⟨rfl, h1⟩
  replace NV := Lib.hid (NV.out.below h1)
  replace NA := Lib.hid (NA.out.below h1)
  replace NB := Lib.hid (NB.out.below h1)
  replace NJ := Lib.hid (NJ.out.below h1)
  replace HB := Lib.hid (bel_trans HB.out h1); clear h1
  go_wp2_with fail
  refine (EJ.out _ _ _ NJ.out NV.out).mono ?_
  rintro e w7 ⟨rfl, h1⟩
  replace NV := Lib.hid (NV.out.below h1)
  replace NA := Lib.hid (NA.out.below h1)
  replace HB := Lib.hid (bel_trans HB.out h1); clear h1
  clear EJ C2 C3 C4 C1 NJ NB HF
  obtain ⟨aa, ca, hua, hca, _⟩ := NA.out.shape
  subst hua
  obtain ⟨m, hm⟩ : ∃ m, A.length = m := ⟨_, rfl⟩
  rw [hm] at NA la hPt hca ⊢
  by_cases hbig : 1048576 < T
  · have d0 : decide (1048576 < T) = true := decide_eq_true hbig
    go_wp2
    go_returns
    exact ⟨rfl, HB.out⟩
  · have d0 : decide (1048576 < T) = false := decide_eq_false hbig
    go_wp2_with fail
    go_loopw [83] (fun i wr => ∃ p : Nat, p ≤ n ∧ i = .int .i64 p ∧ Hid (Below w7.heap.size w7 wr)) (fun i _ => n - (intOf i).toNat)
    case atStart => exact ⟨0, Nat.zero_le _, rfl, Lib.hid (Below.refl _ _)⟩
    case round =>
      obtain ⟨p, hp, rfl, X⟩ := hrel
      by_cases hlt : p < n
      · have l9 : (p : Int) < (n : Int) := by omega
        obtain ⟨e1, e2, e3, e4⟩ := hNear.out p hlt
        obtain ⟨b1, b2⟩ := hBd.out p hlt
        have ePt := Lib.hid (hPt.out p hlt)
        have NAr := Lib.hid (NA.out.below X.out)
        obtain ⟨bs, os, rfl, hbs, hcs⟩ := (NV.out.below X.out).at (by omega)
        obtain ⟨x0, x1⟩ := hcs p hlt
        clear hcs
        generalize gX s p = x at *
        generalize gR s p = y at *
        generalize D.getD p 0 = d at *
        have T0 := Lib.hid (Two.new wr (.int .i64 x) (.int .i64 y) 52)
        have X1 : Hid (Below wr.heap.size wr (wr.alloc (.cells #[.int .i64 x, .int .i64 y] 52))) := Lib.hid (bel_alloc (Below.refl _ _))
        have m1 : 0 ≤ d * T ∧ d * T ≤ 1048576 * 1048576 := ⟨Int.mul_nonneg e1 hT, Int.mul_le_mul (by omega) (by omega) hT (by omega)⟩
        have m2 : 0 ≤ k * y ∧ k * y ≤ 1048576 * 1048576 := ⟨Int.mul_nonneg k0 (by omega), Int.mul_le_mul (by omega) (by omega) (by omega) (by omega)⟩
        have wm1 : IntKind.i64.wrap (d * T) = d * T := wrap_in _ ⟨by omega, by omega⟩
        have wm2 : IntKind.i64.wrap (k * y) = k * y := wrap_in _ ⟨by omega, by omega⟩
        have wm3 : IntKind.i64.wrap (d * T - k * y) = d * T - k * y := wrap_in _ ⟨by omega, by omega⟩
        have wm4 : IntKind.i64.wrap (-T) = -T := wrap_in _ ⟨by omega, by omega⟩
        have f1 : decide (T ≤ d * T - k * y) = false := decide_eq_false (by omega)
        have f2 : decide (d * T - k * y ≤ -T) = false := decide_eq_false (by omega)
        replace NAr := Lib.hid (NAr.out.below X1.out)
        have TX := Lib.hid (bel_trans X.out X1.out)
        obtain ⟨y0, y1, _, _, _⟩ := T0.out
        go_wp2_with fail
        go_loopw [16, 89] (fun pt jv wi => ∃ j : Nat, j ≤ m ∧ jv = .int .i64 j ∧ pt = .int .i64 (ptF A x j) ∧ Hid (Below (wr.alloc (.cells #[.int .i64 x, .int .i64 y] 52)).heap.size (wr.alloc (.cells #[.int .i64 x, .int .i64 y] 52)) wi)) (fun _ jv _ => m - (intOf jv).toNat)
        case atStart => exact ⟨0, Nat.zero_le _, rfl, rfl, Lib.hid (Below.refl _ _)⟩
        case round =>
          obtain ⟨j, hj, rfl, rfl, Y⟩ := hrel
          have T1 := Lib.hid (T0.out.below Y.out)
          clear y0 y1
          obtain ⟨y0, y1, _, _, _⟩ := T1.out
          by_cases hjn : j < m
          · have l8 : (j : Int) < (m : Int) := by omega
            obtain ⟨ba, oa, rfl, hba, hca2⟩ := (NAr.out.below Y.out).at (by omega)
            obtain ⟨z0, z1⟩ := hca2 j hjn
            clear hca2
            have st : Hid (ptF A x (j + 1) = if gX A j = x then gR A j else ptF A x j) := Lib.hid rfl
            generalize gX A j = u at *
            generalize gR A j = v at *
            generalize ptF A x j = pt at *
            rename_i wq
            have U0 := Two.new wr (.int .i64 u) (.int .i64 v) 52
            have U2 := (T1.out.alloc (.cells #[.int .i64 u, .int .i64 v] 52))
            obtain ⟨u0, u1, _, _, _⟩ := U0
            obtain ⟨q0, q1, _, _, _⟩ := U2
            have Y2 := Lib.hid (bel_trans Y.out (bel_alloc (o := .cells #[.int .i64 u, .int .i64 v] 52) (Below.refl _ _)))
            by_cases e : u = x
            · have g : (u == x) = true := by simpa using e
              have s2 := st.out
              rw [if_pos e] at s2
              clear e st
              go_wp2
              go_roundw
              case rel => exact ⟨j + 1, by omega, by go_num, by rw [s2], Y2⟩
              case measure => simp [intOf]; omega
            · have g : (u == x) = false := by simpa using e
              have s2 := st.out
              rw [if_neg e] at s2
              clear e st
              go_wp2
              go_roundw
              case rel => exact ⟨j + 1, by omega, by go_num, by rw [s2], Y2⟩
              case measure => simp [intOf]; omega
          · obtain rfl : m = j := by omega
            rw [ePt.out]
            go_wp2
            go_roundw
            case rel => exact ⟨p + 1, by omega, by go_num, Lib.hid (bel_trans TX.out Y.out)⟩
            case measure => simp [intOf]; omega
      · obtain rfl : n = p := by omega
        go_wp2
        go_returns
        exact ⟨rfl, bel_trans HB.out X.out⟩
theorem walk (v : Value) (s : List (Int × Int)) (k : Int) (w : World) (hv : Pts w v s) (_ : -9223372036854775808 ≤ k ∧ k ≤ 9223372036854775807) :
    Calls Try.prog 6 #[v, .int .i64 k] w fun e w' => e = .returned (.bool true) ∧ Below w.heap.size w w' := by
  have hv2 := Lib.hid hv
  obtain ⟨a, cap, rfl, _, _⟩ := hv.shape
  cases hf : fwS s.length with
  | false => exact few a _ cap k w hf
  | true =>
    have C1 : Hid (∀ W, Pts W (.slice a s.length cap) s → Calls Try.prog 14 #[.slice a s.length cap, .int .i64 k] W fun e w' => (∃ u1 u2, e = .returned (.tuple #[u1, u2, .int .i64 (tkE s k)]) ∧ RH.Sh w' W.heap.size u1 (tkA s k) ∧ RH.Sh w' W.heap.size u2 (tkB s k)) ∧ Below W.heap.size W w') := Lib.hid (fun W h => (shTk_any (.slice a s.length cap) s k W h).mono fun _ _ ⟨u1, u2, e, g, b⟩ => ⟨⟨u1, u2, e, g.1, g.2⟩, b⟩)
    by_cases hE : tkE s k = 0
    · obtain ⟨hR, k0, k1⟩ := tkE_zero.1 hE
      have wh := wh_of hR k0 k1
      rw [hE] at C1
      have cs := scE_zero.2 hR
      refine good a _ cap k s (tkA s k) (tkB s k) w hv2 hf (sm fM s) (drawD (amS s) k) (Lib.hid rfl) hR.len wh.len hR.sm0 k0 k1 (Lib.hid wh.near) (Lib.hid fun i hi => ⟨(shB_false.1 (hR.ok i hi)).2.2.1, ?_⟩) (Lib.hid fun i hi => ptF_is (wh.here i hi).1 (wh.here i hi).2) C1 (Lib.hid fun u W h => ?_) (Lib.hid fun u x W h h' => ?_) (Lib.hid fun W h => ?_)
      · have mn := mem_le_sum (amS s) (amS_isAm hR) (gR s i) (by
          rw [← amS_get]
          rw [List.getD_eq_getElem?_getD, List.getElem?_eq_getElem (by rw [amS_len]; exact hi)]
          exact List.getElem_mem _)
        rwa [amS_sum] at mn
      · have := shSu_any u (tkA s k) W h
        rwa [wh.sa, wh.sg] at this
      · have := shJn_any u x (tkA s k) (tkB s k) W h h'
        rwa [wh.je, wh.jl] at this
      · have := shSu_any _ s W h
        rwa [show suF s = sm fM s by unfold suF; rw [if_pos cs], show suG s = 0 by unfold suG; rw [if_pos cs]] at this
    · have eA : tkA s k = [] := by unfold tkA; rw [if_neg hE]
      have eB : tkB s k = [] := by unfold tkB; rw [if_neg hE]
      exact bad a _ cap k (tkE s k) s (tkA s k) (tkB s k) w hv2 hf (by simpa using hE) eA eB C1

set_option maxRecDepth 100000 in
theorem lifted (os : Os) (started : os.Started) (H : Type) (enc : TypeId × Value → H) :
    ReturnsInHanded {} Try.checked os 6 .any (Rows.shareWholeSpec.pre6 enc Try.prog Try.f6 Rows.shareWholeRow.domain false) (Rows.shareWholeSpec.post enc Try.prog Try.f6 false true false false) := by
  refine returnsInHanded_of_change (C := Try.checked) own started (by kernel_rfl) Try.func6
    (ChangeSpec.witness6 (enc := enc) (C := Try.checked) false ⟨#[], #[.slice none 0 0, .int .i64 0], []⟩ 8 (by kernel_rfl) (by kernel_rfl) (by kernel_rfl) (by kernel_rfl)) ?_
  intro W base args ds gs before hval0 hW hcnd _
  have hval : ∀ (j : Nat) t v, Try.f6.params[j]? = some t → args[j]? = some v → Value.okWide Try.prog W .any base t v := hval0
  clear hval0
  have hW' := hW
  obtain ⟨p, q, hA0, hV, rfl, hfz, hnd⟩ := hW
  have hA : DataW.TrodAll enc Try.prog W 0 (fun _ => true) true Try.f6.params.toList args.toList ds p := hA0
  rw [Try.params6] at hA hval
  obtain ⟨v0, vs0, d0, ds0, p0, q0, hargs, rfl, rfl, h0, r0⟩ := trodAll_cons hA
  obtain ⟨v1, vs1, d1, ds1, p1, q1, rfl, rfl, rfl, h1, r1⟩ := trodAll_cons r0
  obtain ⟨rfl, rfl, rfl⟩ := trodAll_nil r1
  obtain rfl : args = #[v0, v1] := by cases args; simp_all
  obtain ⟨rfl, rfl⟩ := trodVars_none hV
  have k0 := h0
  have lt0 : ∀ x ∈ p0, x.block < W.heap.size := by obtain ⟨m, hm⟩ := k0; exact DataW.trod_lt m _ _ _ hm
  have k1 := h1
  have lt1 : ∀ x ∈ p1, x.block < W.heap.size := by obtain ⟨m, hm⟩ := k1; exact DataW.trod_lt m _ _ _ hm
  obtain ⟨z0, w0⟩ := open_shs (hval 0 22 v0 rfl rfl) h0
  obtain ⟨a1, rfl, rfl, rfl, w1⟩ := open_int Try.underlying3 (hval 1 3 v1 rfl rfl) h1
  clear hA0
  refine (walk v0 z0 a1 W w0 (wf_bd w1)).mono fun e W' ⟨he, bel⟩ => ?_
  subst he
  exact ⟨_, rfl, _, _, _, [], _, [], hW', trodAll_mk1 (shut_bool Try.underlying4 _), (trodAll_cons_mk (Below.trod laidOut (by kernel_rfl) (of_decide_eq_true (by kernel_rfl)) k0 bel lt0) (trodAll_cons_mk (Below.trod laidOut (by kernel_rfl) (of_decide_eq_true (by kernel_rfl)) k1 bel lt1) trodAll_mk0)), rfl, bel.frame _, fun h => by cases h⟩

theorem over : Rows.shareWholeRow.holds Try.pinned (OpenSpec.ofChange Rows.shareWholeSpec) :=
  OpenClaim.holds_of_wide 6 Try.f6 rfl rfl rfl rfl rfl rfl rfl ⟨rfl, rfl, rfl, rfl, rfl⟩ rfl rfl rfl rfl rfl (by kernel_rfl) Try.func6 (by kernel_rfl)
    (of_decide_eq_true (by kernel_rfl)) (by unfold Func.isWrapper; first | (rw [if_pos (by decide +kernel)]; kernel_rfl) | (rw [if_neg (by decide +kernel)]; exact ⟨rfl, rfl⟩))
    (fun os started H enc _ => lifted os started H enc)

theorem proved : Rows.ShareWholeSaid := over
#print axioms proved
end Go.Proofs.Ytmoeccghkpjbgaa.shareWhole
