/- Plain facts on decimal digits. No program stands in this text. -/
import Derived.Lib.Hide
import Derived.Lib.ItoaNum
namespace Go.Proofs.YtdhckbjebccdbaaDoor

/-- a decimal digit -/
def isDg (c : UInt8) : Bool := decide (48 ≤ c.toNat) && decide (c.toNat ≤ 57)
theorem isDg_iff (c : UInt8) : isDg c = true ↔ 48 ≤ c.toNat ∧ c.toNat ≤ 57 := by simp [isDg]
theorem isDg_not (c : UInt8) : isDg c = false ↔ c.toNat < 48 ∨ 57 < c.toNat := by rw [Bool.eq_false_iff, ne_eq, isDg_iff]; omega
def dgs (l : List UInt8) : Bool := l.all isDg
/-- the number with some digits -/
def val (l : List UInt8) : Int := l.foldl (fun a c => 10 * a + ((c.toNat : Int) - 48)) 0
theorem val_snoc (l : List UInt8) (c : UInt8) : val (l ++ [c]) = 10 * val l + ((c.toNat : Int) - 48) := by simp [val]
theorem dgs_snoc (l : List UInt8) (c : UInt8) : dgs (l ++ [c]) = (dgs l && isDg c) := by simp [dgs]
theorem val_bd (l : List UInt8) (h : dgs l = true) : 0 ≤ val l ∧ val l < 10 ^ l.length := by
  have key : ∀ (n : Nat) (l : List UInt8), l.length = n → dgs l = true → 0 ≤ val l ∧ val l < 10 ^ l.length := by
    intro n
    induction n with
    | zero => intro l hl _; rw [List.length_eq_zero_iff.1 hl]; simp [val]
    | succ n ih =>
      intro l hl h
      have hne : l ≠ [] := fun e => by subst e; simp at hl
      have e := List.dropLast_concat_getLast hne
      rw [← e] at h ⊢
      rw [dgs_snoc, Bool.and_eq_true, isDg_iff] at h
      obtain ⟨a, b⟩ := ih l.dropLast (by simp; omega) h.1
      rw [val_snoc, List.length_append, List.length_singleton, Int.pow_succ]
      omega
  exact key _ l rfl h
theorem val_small (l : List UInt8) (h : dgs l = true) (hl : l.length ≤ 15) : 0 ≤ val l ∧ val l ≤ 999999999999999 := by
  obtain ⟨a, b⟩ := val_bd l h
  have : (10 : Int) ^ l.length ≤ 10 ^ 15 := by
    have := Nat.pow_le_pow_right (show 0 < 10 by omega) hl
    exact_mod_cast this
  omega

theorem take_snoc (s : ByteArray) (k : Nat) (h : k < s.size) : s.data.toList.take (k + 1) = s.data.toList.take k ++ [s[k]] := by
  rw [List.take_succ_eq_append_getElem (by simpa using h)]; rfl
theorem dgs_take (s : ByteArray) (k : Nat) (h : k < s.size) (hd : isDg s[k] = false) : dgs s.data.toList = false := by
  rw [Bool.eq_false_iff]; intro hall
  unfold dgs at hall
  rw [List.all_eq_true] at hall
  have hm : s[k] ∈ s.data.toList := by
    show s.data[k] ∈ s.data.toList
    exact List.getElem_mem (l := s.data.toList) (by simpa using h)
  rw [hall _ hm] at hd; cases hd
theorem take_all (s : ByteArray) (k : Nat) (h : s.size ≤ k) : s.data.toList.take k = s.data.toList := List.take_of_length_le (by simpa using h)

/-- the last decimal digit of a number -/
def dg (n : Int) : UInt8 := UInt8.ofNat (48 + (n % 10).toNat)
theorem dg_nat (n : Int) : (dg n).toNat = 48 + (n % 10).toNat := by
  have : (n % 10).toNat < 10 := by omega
  unfold dg
  rw [UInt8.toNat_ofNat']
  omega
theorem dg_is (n : Int) : isDg (dg n) = true := by
  rw [isDg_iff, dg_nat]; omega
theorem dg_val (n : Int) : ((dg n).toNat : Int) - 48 = n % 10 := by rw [dg_nat]; omega
def two (n : Int) : List UInt8 := [dg (n / 10), dg n]
def four (n : Int) : List UInt8 := [dg (n / 1000), dg (n / 100), dg (n / 10), dg n]
theorem dgs_two (n : Int) : dgs (two n) = true := by simp [dgs, two, dg_is]
theorem dgs_four (n : Int) : dgs (four n) = true := by simp [dgs, four, dg_is]
theorem val_two (n : Int) (h0 : 0 ≤ n) (h1 : n ≤ 99) : val (two n) = n := by
  simp only [val, two, List.foldl_cons, List.foldl_nil, dg_val]; omega
theorem val_four (n : Int) (h0 : 0 ≤ n) (h1 : n ≤ 9999) : val (four n) = n := by
  simp only [val, four, List.foldl_cons, List.foldl_nil, dg_val]; omega
theorem dec_four (n : Int) (h0 : 1000 ≤ n) (h1 : n ≤ 9999) : Lib.decDigits n.toNat = four n := by
  have d1 : Lib.decDigits n.toNat = Lib.decDigits (n.toNat / 10) ++ [UInt8.ofNat (48 + n.toNat % 10)] := by rw [Lib.decDigits, dif_neg (by omega)]
  have d2 : Lib.decDigits (n.toNat / 10) = Lib.decDigits (n.toNat / 10 / 10) ++ [UInt8.ofNat (48 + n.toNat / 10 % 10)] := by rw [Lib.decDigits, dif_neg (by omega)]
  rw [d1, d2, Lib.decDigits_two (by omega) (by omega)]
  simp only [four, dg, List.cons_append, List.nil_append]
  rw [show n.toNat / 10 / 10 / 10 = (n / 1000 % 10).toNat by omega, show n.toNat / 10 / 10 % 10 = (n / 100 % 10).toNat by omega, show n.toNat / 10 % 10 = (n / 10 % 10).toNat by omega, show n.toNat % 10 = (n % 10).toNat by omega]
theorem dec_one (n : Int) (h0 : 0 ≤ n) (h1 : n ≤ 9) : 48 :: Lib.decDigits n.toNat = two n := by
  rw [Lib.decDigits_one (by omega)]
  simp only [two, dg]
  rw [show n / 10 % 10 = 0 by omega, show n.toNat = (n % 10).toNat by omega]; rfl
theorem dec_two (n : Int) (h0 : 10 ≤ n) (h1 : n ≤ 99) : Lib.decDigits n.toNat = two n := by
  rw [Lib.decDigits_two (by omega) (by omega)]
  simp only [two, dg]
  rw [show n.toNat / 10 = (n / 10 % 10).toNat by omega, show n.toNat % 10 = (n % 10).toNat by omega]
end Go.Proofs.YtdhckbjebccdbaaDoor
