/- Plain facts of layer 21: liquids mixed. No program stands in the facts of this text. -/
import Derived.Test.YtfpdanjhlepckaaDoorQA
namespace Go.Proofs.YtfpdanjhlepckaaDoor

/-- a liquid is plain -/
def plB (A M : Int) : Bool := !(decide (A < 0) || decide (10737418240000 < A) || decide (M < 0) || decide (128849018880000 < M)) && (decide (A = 0) || decide (0 < M))
theorem plB_iff {A M : Int} : plB A M = true ↔ 0 ≤ A ∧ A ≤ 10737418240000 ∧ 0 ≤ M ∧ M ≤ 128849018880000 ∧ (M = 0 → A = 0) := by
  unfold plB
  simp only [Bool.and_eq_true, Bool.not_eq_true', Bool.or_eq_false_iff, Bool.or_eq_true, decide_eq_true_eq, decide_eq_false_iff_not]
  omega
theorem plB_zero : plB 0 0 = true := by decide
/-- sums over rows -/
def sm (f : Int → Int → Int) (l : List (Int × Int)) : Int := (l.map fun q => f q.1 q.2).sum
theorem sm_nil (f : Int → Int → Int) : sm f [] = 0 := rfl
theorem sm_step (f : Int → Int → Int) (l : List (Int × Int)) (k : Nat) (h : k < l.length) : sm f (l.take (k + 1)) = sm f (l.take k) + f (gX l k) (gR l k) := by
  unfold sm gX gR
  rw [List.take_succ_eq_append_getElem h, List.map_append, List.sum_append]
  simp [List.getD_eq_getElem?_getD, List.getElem?_eq_getElem h]
theorem sm_full (f : Int → Int → Int) (l : List (Int × Int)) : sm f (l.take l.length) = sm f l := by rw [List.take_length]
theorem sm_app (f : Int → Int → Int) (l m : List (Int × Int)) : sm f (l ++ m) = sm f l + sm f m := by unfold sm; rw [List.map_append, List.sum_append]
theorem sm_rev (f : Int → Int → Int) (l : List (Int × Int)) : sm f l.reverse = sm f l := by
  induction l with
  | nil => rfl
  | cons q l ih => rw [List.reverse_cons, sm_app, ih]; unfold sm; simp; omega
theorem sm_split (f : Int → Int → Int) (l : List (Int × Int)) (n : Nat) : sm f (l.take n) + sm f (l.drop n) = sm f l := by rw [← sm_app, List.take_append_drop]
theorem sm_bd {f : Int → Int → Int} {c : Int} (l : List (Int × Int)) (h : ∀ q ∈ l, 0 ≤ f q.1 q.2 ∧ f q.1 q.2 ≤ c) : 0 ≤ sm f l ∧ sm f l ≤ c * l.length := by
  induction l with
  | nil => unfold sm; simp
  | cons q l ih =>
    have i := ih fun x hx => h x (List.mem_cons_of_mem _ hx)
    have := h q List.mem_cons_self
    unfold sm at *
    simp only [List.map_cons, List.sum_cons, List.length_cons]
    rw [show ((l.length + 1 : Nat) : Int) = (l.length : Int) + 1 by omega, Int.mul_add, Int.mul_one]
    omega
def fA (A _ : Int) : Int := A
def fM (_ M : Int) : Int := M
def allP (l : List (Int × Int)) : Bool := l.all fun q => plB q.1 q.2
theorem allP_iff {l : List (Int × Int)} : allP l = true ↔ ∀ q ∈ l, plB q.1 q.2 = true := by unfold allP; exact List.all_eq_true
theorem row_mem {l : List (Int × Int)} {k : Nat} (h : k < l.length) : (gX l k, gR l k) ∈ l := by
  have : (gX l k, gR l k) = l[k] := by simp [gX, gR, List.getD_eq_getElem?_getD, List.getElem?_eq_getElem h]
  rw [this]; exact List.getElem_mem h
theorem allP_at {l : List (Int × Int)} (h : allP l = true) {k : Nat} (hk : k < l.length) : plB (gX l k) (gR l k) = true := allP_iff.1 h _ (row_mem hk)
theorem allP_bad {l : List (Int × Int)} (h : allP l = false) : ∃ k, k < l.length ∧ plB (gX l k) (gR l k) = false ∧ ∀ j, j < k → plB (gX l j) (gR l j) = true := by
  obtain ⟨s1, s2⟩ := fst_spec (fun k => !plB (gX l k) (gR l k)) l.length
  have le := fst_le (fun k => !plB (gX l k) (gR l k)) l.length
  generalize fst (fun k => !plB (gX l k) (gR l k)) l.length = k at *
  rcases Nat.lt_or_ge k l.length with g | g
  · exact ⟨k, g, by simpa using s2 g, fun j hj => by simpa using s1 j hj⟩
  · exfalso
    have : allP l = true := by
      rw [allP_iff]
      intro q hq
      obtain ⟨i, hi, e⟩ := List.getElem_of_mem hq
      have := s1 i (by omega)
      simp [gX, gR, List.getD_eq_getElem?_getD, List.getElem?_eq_getElem hi, e] at this
      exact this
    rw [this] at h; cases h
theorem mix_bd {l : List (Int × Int)} (h : allP l = true) : (0 ≤ sm fA l ∧ sm fA l ≤ 10737418240000 * l.length) ∧ 0 ≤ sm fM l ∧ sm fM l ≤ 128849018880000 * l.length := by
  refine ⟨sm_bd l fun q hq => ?_, sm_bd l fun q hq => ?_⟩
  · have := plB_iff.1 (allP_iff.1 h q hq); exact ⟨this.1, this.2.1⟩
  · have := plB_iff.1 (allP_iff.1 h q hq); exact ⟨this.2.2.1, this.2.2.2.1⟩
theorem allP_take {l : List (Int × Int)} (h : allP l = true) (k : Nat) : allP (l.take k) = true := allP_iff.2 fun q hq => allP_iff.1 h q (List.mem_of_mem_take hq)
theorem allP_drop {l : List (Int × Int)} (h : allP l = true) (k : Nat) : allP (l.drop k) = true := allP_iff.2 fun q hq => allP_iff.1 h q (List.mem_of_mem_drop hq)
def suE (l : List (Int × Int)) : Int := if 8 < l.length then 8 else if allP l = false then 1 else if plB (sm fA l) (sm fM l) = false then 15 else 0
def suA (l : List (Int × Int)) : Int := if suE l = 0 then sm fA l else 0
def suM (l : List (Int × Int)) : Int := if suE l = 0 then sm fM l else 0
theorem suE_zero {l : List (Int × Int)} : suE l = 0 ↔ l.length ≤ 8 ∧ allP l = true ∧ plB (sm fA l) (sm fM l) = true := by
  unfold suE
  by_cases h1 : 8 < l.length
  · rw [if_pos h1]; exact ⟨fun e => (by cases e), fun e => by omega⟩
  · rw [if_neg h1]
    cases h2 : allP l with
    | false => exact ⟨fun e => (by cases e), fun e => by cases e.2.1⟩
    | true =>
      cases h3 : plB (sm fA l) (sm fM l) with
      | false => exact ⟨fun e => (by cases e), fun e => by cases e.2.2⟩
      | true => exact ⟨fun _ => ⟨by omega, rfl, rfl⟩, fun _ => rfl⟩
end Go.Proofs.YtfpdanjhlepckaaDoor

