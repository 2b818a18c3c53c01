/- Plain facts on sums of quantities: the order, and joining two. -/
import Derived.Test.YtdhckbjebccdbaaDoorUSum
namespace Go.Proofs.YtdhckbjebccdbaaDoor

theorem caE_of (l : List (Int × Int)) (K : Int) (h1 : 1 ≤ l.length) (h2 : l.length ≤ 64) (h : ∀ q ∈ l, q.1 = K ∧ qE q.1 q.2 = 0) : caE l = 0 := by
  unfold caE
  have a1 : l.all (fun q => qE q.1 q.2 == 0) = true := by
    rw [List.all_eq_true]; intro q hq; simpa using (h q hq).2
  have a2 : l.all (fun q => q.1 == (l.getD 0 (0, 0)).1) = true := by
    rw [List.all_eq_true]; intro q hq
    have h0 : 0 < l.length := h1
    have : (l.getD 0 (0, 0)).1 = K := by
      rw [List.getD_eq_getElem?_getD, List.getElem?_eq_getElem h0, Option.getD_some]
      exact (h _ (List.getElem_mem h0)).1
    rw [this]; simpa using (h q hq).1
  rw [if_neg (by omega), if_neg (by omega), if_neg (by rw [a1]; simp), if_neg (by rw [a2]; simp)]
theorem caE_mem (l : List (Int × Int)) (h : caE l = 0) : 1 ≤ l.length ∧ l.length ≤ 64 ∧ ∀ q ∈ l, q.1 = qK l 0 ∧ qE q.1 q.2 = 0 := by
  obtain ⟨h1, h2, h3, h4⟩ := caE_ok l h
  refine ⟨h1, h2, fun q hq => ?_⟩
  obtain ⟨j, hj, rfl⟩ := List.getElem_of_mem hq
  have e1 := h3 j hj
  have e2 := h4 j hj
  unfold qK qA at e1
  unfold qK at e2
  rw [List.getD_eq_getElem?_getD, List.getElem?_eq_getElem hj, Option.getD_some] at e1
  rw [List.getD_eq_getElem?_getD (i := j), List.getElem?_eq_getElem hj, Option.getD_some] at e2
  exact ⟨e2, e1⟩
theorem qK_of (l : List (Int × Int)) (K : Int) (h1 : 1 ≤ l.length) (h : ∀ q ∈ l, q.1 = K) : qK l 0 = K := by
  have h0 : 0 < l.length := h1
  unfold qK
  rw [List.getD_eq_getElem?_getD, List.getElem?_eq_getElem h0, Option.getD_some]
  exact h _ (List.getElem_mem h0)
theorem caE_rev1 (l : List (Int × Int)) (h : caE l = 0) : caE l.reverse = 0 := by
  obtain ⟨h1, h2, h3⟩ := caE_mem l h
  exact caE_of _ (qK l 0) (by simpa using h1) (by simpa using h2) (fun q hq => h3 q (by simpa using hq))
theorem caE_rev (l : List (Int × Int)) : caE l.reverse = 0 ↔ caE l = 0 :=
  ⟨fun h => by have := caE_rev1 _ h; rwa [List.reverse_reverse] at this, caE_rev1 l⟩

/-- the sum of all amounts -/
def tot : List (Int × Int) → Int
  | [] => 0
  | q :: l => q.2 + tot l
theorem tot_app (l m : List (Int × Int)) : tot (l ++ m) = tot l + tot m := by
  induction l with
  | nil => simp [tot]
  | cons q l ih => simp only [List.cons_append, tot, ih]; omega
theorem tot_rev (l : List (Int × Int)) : tot l.reverse = tot l := by
  induction l with
  | nil => rfl
  | cons q l ih => rw [List.reverse_cons, tot_app, ih]; simp only [tot]; omega
theorem pre_tot (l : List (Int × Int)) (j : Nat) (h : j < l.length) : pre (qA l) j = tot (l.take (j + 1)) := by
  induction j with
  | zero =>
    cases l with
    | nil => simp at h
    | cons q l => simp [pre, qA, tot]
  | succ j ih =>
    rw [pre, ih (by omega), List.take_succ_eq_append_getElem h, tot_app]
    unfold qA
    rw [List.getD_eq_getElem?_getD, List.getElem?_eq_getElem h, Option.getD_some]
    simp [tot]
theorem suE_caE (l : List (Int × Int)) : (suE l = 0 ∨ suE l = 15) ↔ caE l = 0 := by
  unfold suE
  constructor
  · intro h
    by_cases hc : caE l = 0
    · exact hc
    · rw [if_neg hc] at h
      exfalso
      revert hc h
      unfold caE
      repeat' split
      all_goals omega
  · intro h
    rw [if_pos h]
    split
    · exact .inl rfl
    · exact .inr rfl
theorem suE_iff (l : List (Int × Int)) : suE l = 0 ↔ caE l = 0 ∧ ∀ j, 1 ≤ j → j < l.length → qE (qK l 0) (tot (l.take (j + 1))) = 0 := by
  have key : (∀ j, 1 ≤ j → j < l.length → qE (qK l 0) (pre (qA l) j) = 0) ↔ ∀ j, 1 ≤ j → j < l.length → qE (qK l 0) (tot (l.take (j + 1))) = 0 := by
    constructor
    · intro h j j1 j2; rw [← pre_tot l j j2]; exact h j j1 j2
    · intro h j j1 j2; rw [pre_tot l j j2]; exact h j j1 j2
  rw [← key, ← inR_iff]
  unfold suE
  by_cases hc : caE l = 0
  · rw [if_pos hc]
    by_cases hi : inR l = true
    · simp [hi, hc]
    · rw [if_neg hi]; simp [hi]
  · rw [if_neg hc]; simp [hc]
theorem su_val (l : List (Int × Int)) (h : suE l = 0) : suK l = qK l 0 ∧ suA l = tot l := by
  obtain ⟨h1, _⟩ := (suE_iff l).1 h
  obtain ⟨h1, _⟩ := caE_mem l h1
  unfold suK suA
  rw [if_pos h, if_pos h, pre_tot l _ (by omega)]
  refine ⟨rfl, ?_⟩
  rw [List.take_of_length_le (by omega)]
theorem su_no (l : List (Int × Int)) (h : suE l ≠ 0) : suK l = 0 ∧ suA l = 0 := by
  unfold suK suA
  rw [if_neg h, if_neg h]; exact ⟨rfl, rfl⟩
theorem su_kind (l : List (Int × Int)) (h : suE l = 0) : suK l ≠ 0 := by
  obtain ⟨h1, _⟩ := (suE_iff l).1 h
  obtain ⟨h1, _, h2⟩ := caE_mem l h1
  rw [(su_val l h).1]
  have h0 : 0 < l.length := h1
  have e := h2 _ (List.getElem_mem h0)
  have := qE_ok _ _ e.2
  rw [← e.1]; omega
theorem su_rev (l : List (Int × Int)) (h : suE l = 0) (h' : suE l.reverse = 0) : suK l.reverse = suK l ∧ suA l.reverse = suA l := by
  rw [(su_val _ h).1, (su_val _ h).2, (su_val _ h').1, (su_val _ h').2, tot_rev]
  obtain ⟨h1, _⟩ := (suE_iff l).1 h
  obtain ⟨h1, _, h2⟩ := caE_mem l h1
  exact ⟨qK_of _ _ (by simpa using h1) (fun q hq => (h2 q (by simpa using hq)).1), rfl⟩
theorem su_joined (l : List (Int × Int)) (h : suE l = 0) (h2 : 2 ≤ l.length) :
    suE (l.take 2) = 0 ∧ suE ((suK (l.take 2), suA (l.take 2)) :: l.drop 2) = 0 ∧ suK ((suK (l.take 2), suA (l.take 2)) :: l.drop 2) = suK l ∧ suA ((suK (l.take 2), suA (l.take 2)) :: l.drop 2) = suA l := by
  obtain ⟨c, r⟩ := (suE_iff l).1 h
  obtain ⟨c1, c2, c3⟩ := caE_mem l c
  have k2 : qK (l.take 2) 0 = qK l 0 := qK_of _ _ (by rw [List.length_take]; omega) (fun q hq => (c3 q (List.mem_of_mem_take hq)).1)
  have e2 : suE (l.take 2) = 0 := by
    refine (suE_iff _).2 ⟨caE_of _ (qK l 0) (by rw [List.length_take]; omega) (by rw [List.length_take]; omega) (fun q hq => c3 q (List.mem_of_mem_take hq)), fun j j1 j2 => ?_⟩
    rw [List.length_take] at j2
    obtain rfl : j = 1 := by omega
    rw [k2, List.take_take]
    exact r 1 (by omega) (by omega)
  obtain ⟨v1, v2⟩ := su_val _ e2
  rw [v1, v2, k2]
  have hq2 : qE (qK l 0) (tot (l.take 2)) = 0 := r 1 (by omega) (by omega)
  have hm : ∀ q ∈ (qK l 0, tot (l.take 2)) :: l.drop 2, q.1 = qK l 0 ∧ qE q.1 q.2 = 0 := by
    intro q hq
    rcases List.mem_cons.1 hq with rfl | hq
    · exact ⟨rfl, hq2⟩
    · exact c3 q (List.mem_of_mem_drop hq)
  have hl : ((qK l 0, tot (l.take 2)) :: l.drop 2).length = l.length - 1 := by simp; omega
  have k3 : qK ((qK l 0, tot (l.take 2)) :: l.drop 2) 0 = qK l 0 := qK_of _ _ (by rw [hl]; omega) (fun q hq => (hm q hq).1)
  have ht : ∀ j, tot (((qK l 0, tot (l.take 2)) :: l.drop 2).take (j + 1)) = tot (l.take (j + 2)) := by
    intro j
    rw [List.take_succ_cons, tot]
    have : l.take (j + 2) = l.take 2 ++ (l.drop 2).take j := by rw [Nat.add_comm, List.take_add]
    rw [this, tot_app]
  have e3 : suE ((qK l 0, tot (l.take 2)) :: l.drop 2) = 0 := by
    refine (suE_iff _).2 ⟨caE_of _ (qK l 0) (by rw [hl]; omega) (by rw [hl]; omega) hm, fun j j1 j2 => ?_⟩
    rw [hl] at j2
    rw [k3, ht]
    exact r (j + 1) (by omega) (by omega)
  obtain ⟨w1, w2⟩ := su_val _ e3
  obtain ⟨z1, z2⟩ := su_val _ h
  refine ⟨e2, e3, by rw [w1, z1, k3], ?_⟩
  rw [w2, z2, tot]
  conv => rhs; rw [← List.take_append_drop 2 l]
  rw [tot_app]
end Go.Proofs.YtdhckbjebccdbaaDoor
