/- Weights that are scaled one after another; what a reduced ratio keeps; few weights. -/
import Derived.Test.YtlpngfngdigchaaShare
import Derived.Test.YtlpngfngdigchaaClone
namespace Go.Proofs.Ytlpngfngdigchaa
open Go.RowKit

def mix (ws : List Int) (c : Int) (k : Nat) : List Int := (ws.take k).map (· * c) ++ ws.drop k
theorem mix_zero (ws : List Int) (c : Int) : mix ws c 0 = ws := by simp [mix]
theorem mix_all (ws : List Int) (c : Int) (k : Nat) (h : ws.length ≤ k) : mix ws c k = ws.map (· * c) := by
  unfold mix; rw [List.take_of_length_le h, List.drop_of_length_le h, List.append_nil]
theorem mix_get (ws : List Int) (c : Int) (k : Nat) (h : k < ws.length) : (mix ws c k).getD k 0 = ws.getD k 0 := by
  unfold mix
  rw [List.getD_eq_getElem?_getD, List.getElem?_append_right (by simp; omega)]
  simp [List.getD, show k - min k ws.length = 0 by omega]
theorem mix_set (ws : List Int) (c : Int) (k : Nat) (h : k < ws.length) : (mix ws c k).set k (ws.getD k 0 * c) = mix ws c (k + 1) := by
  apply List.ext_getElem?
  intro i
  unfold mix
  have hl : ((ws.take k).map (· * c)).length = k := by simp; omega
  have hl2 : ((ws.take (k + 1)).map (· * c)).length = k + 1 := by simp; omega
  rw [List.set_append_right _ _ (by omega), hl, Nat.sub_self]
  rcases Nat.lt_trichotomy i k with hi | hi | hi
  · rw [List.getElem?_append_left (by omega), List.getElem?_append_left (by omega)]
    simp [List.getElem?_map, hi, show i < k + 1 by omega]
  · subst hi
    rw [List.getElem?_append_right (by omega), List.getElem?_append_left (by omega), hl, Nat.sub_self, List.getElem?_set_self (by simp; omega)]
    simp [h, List.getD]
  · rw [List.getElem?_append_right (by omega), List.getElem?_append_right (by omega), hl, hl2]
    rw [List.getElem?_set_ne (by omega), List.getElem?_drop, List.getElem?_drop]
    congr 1; omega

theorem few_any (v : Value) (zs : List Int) (w : World) (h : Ins w v zs) :
    Calls Try.prog 17 #[v] w fun e w' => e = .returned (.bool (decide (zs.length ≤ 65))) ∧ w = w' := by
  obtain ⟨a, c, rfl, hl, h⟩ := h
  clear h
  generalize zs.length = n at *
  by_cases hn : n ≤ 65
  · rw [decide_eq_true hn]
    go_enter Try.func17, Try.ntmps17
    go_wp2
    go_ret
    exact ⟨by first | rfl | (congr 2; simp; omega), rfl⟩
  · rw [decide_eq_false hn]
    go_enter Try.func17, Try.ntmps17
    go_wp2
    go_ret
    exact ⟨by first | rfl | (congr 2; simp; omega), rfl⟩

theorem gcdI_dvd (a b : Int) (ha : 0 ≤ a) (hb : 0 ≤ b) : gcdI a b ∣ a ∧ gcdI a b ∣ b := by
  obtain ⟨A, rfl⟩ := Int.eq_ofNat_of_zero_le ha
  obtain ⟨B, rfl⟩ := Int.eq_ofNat_of_zero_le hb
  unfold gcdI
  simp only [Int.toNat_natCast]
  exact ⟨Int.natCast_dvd_natCast.2 (Nat.gcd_dvd_left A B), Int.natCast_dvd_natCast.2 (Nat.gcd_dvd_right A B)⟩
theorem gcdI_great (a b d : Int) (ha : 0 ≤ a) (hb : 0 ≤ b) (hd : 0 ≤ d) (h1 : d ∣ a) (h2 : d ∣ b) : d ∣ gcdI a b := by
  obtain ⟨A, rfl⟩ := Int.eq_ofNat_of_zero_le ha
  obtain ⟨B, rfl⟩ := Int.eq_ofNat_of_zero_le hb
  obtain ⟨D, rfl⟩ := Int.eq_ofNat_of_zero_le hd
  unfold gcdI
  simp only [Int.toNat_natCast]
  exact Int.natCast_dvd_natCast.2 (Nat.dvd_gcd (Int.natCast_dvd_natCast.1 h1) (Int.natCast_dvd_natCast.1 h2))

/-- a reduced ratio: the same ratio, and no common divisor -/
theorem red_facts (a b c : Int) (h : redE a b = 0) (hc : 1 ≤ c) :
    1 ≤ redB a b ∧ redB a b ≤ 128849018880000 ∧ 0 ≤ redA a b ∧ redA a b ≤ 128849018880000 ∧ cmpE (redA a b) (redB a b) a b = 0 ∧ cmpC (redA a b) (redB a b) a b = 0 ∧
    (c = 1 ∨ (redA a b).tmod c ≠ 0 ∨ (redB a b).tmod c ≠ 0) := by
  have e1 : redA a b = a / gcdI a b := by unfold redA; rw [if_pos h]
  have e2 : redB a b = b / gcdI a b := by unfold redB; rw [if_pos h]
  unfold redE at h
  split at h
  · rename_i hab
    split at h
    · omega
    · rename_i hb
      rw [Bool.and_eq_true, isAm_iff, isAm_iff] at hab
      obtain ⟨⟨a0, a1⟩, b0, b1⟩ := hab
      have gp := gcdI_pos a b (by omega)
      obtain ⟨⟨x, hx⟩, ⟨y, hy⟩⟩ := gcdI_dvd a b a0 b0
      have gg := fun d hd => gcdI_great a b d a0 b0 hd
      generalize gcdI a b = G at *
      have hx2 : a / G = x := by rw [hx]; exact Int.mul_ediv_cancel_left _ (by omega)
      have hy2 : b / G = y := by rw [hy]; exact Int.mul_ediv_cancel_left _ (by omega)
      rw [e1, e2, hx2, hy2]
      have hy0 : 0 < y := by
        rcases Int.lt_or_le 0 y with h1 | h1
        · exact h1
        · have := Int.mul_nonneg (show 0 ≤ G by omega) (show 0 ≤ -y by omega)
          rw [Int.mul_neg] at this; omega
      have hx0 : 0 ≤ x := by rw [← hx2]; exact Int.ediv_nonneg a0 (by omega)
      have hx1 : x ≤ a := by rw [← hx2]; exact Int.ediv_le_self _ a0
      have hy1 : y ≤ b := by rw [← hy2]; exact Int.ediv_le_self _ b0
      have hE : cmpE x y a b = 0 := by
        unfold cmpE
        rw [(isAm_iff x).2 (by omega), (isAm_iff y).2 (by omega), (isAm_iff a).2 (by omega), (isAm_iff b).2 (by omega)]
        simp only [Bool.and_self, if_true]
        rw [if_neg (by omega), if_neg hb]
      refine ⟨hy0, by omega, hx0, by omega, hE, ?_, ?_⟩
      · unfold cmpC
        rw [if_pos hE]
        have : x * b = a * y := by rw [hy, hx]; grind
        unfold cmpN; rw [this]; simp
      · by_cases h1 : x.tmod c = 0
        · by_cases h2 : y.tmod c = 0
          · left
            obtain ⟨s, hs⟩ := Int.dvd_of_tmod_eq_zero h1
            obtain ⟨t, ht⟩ := Int.dvd_of_tmod_eq_zero h2
            have := gg (G * c) (Int.mul_nonneg (by omega) (by omega)) ⟨s, by rw [hx, hs]; grind⟩ ⟨t, by rw [hy, ht]; grind⟩
            have := Int.le_of_dvd (by omega) this
            by_cases h3 : c = 1
            · exact h3
            · have := Int.mul_le_mul_of_nonneg_left (show 2 ≤ c by omega) (show 0 ≤ G by omega)
              omega
          · exact .inr (.inr h2)
        · exact .inr (.inl h1)
  · omega

end Go.Proofs.Ytlpngfngdigchaa
