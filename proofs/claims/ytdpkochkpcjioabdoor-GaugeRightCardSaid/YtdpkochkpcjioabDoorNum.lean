/- Plain arithmetic: amounts, and the steps of the division of two words by one. No program stands in this text. -/
import Derived.Lib.BitFns
import Derived.Lib.ItoaNum
import Derived.Laws.Bits64
import Derived.Laws.BitsAllLaws
namespace Go.Proofs.YtdpkochkpcjioabDoor

/-- an amount -/
def isAm (n : Int) : Bool := decide (0 ≤ n) && decide (n ≤ 128849018880000)

theorem isAm_iff (n : Int) : isAm n = true ↔ 0 ≤ n ∧ n ≤ 128849018880000 := by simp [isAm]
theorem isAm_not (n : Int) : isAm n = false ↔ n < 0 ∨ 128849018880000 < n := by
  rw [Bool.eq_false_iff, ne_eq, isAm_iff]; omega

theorem all_take_succ (zs : List Int) (k : Nat) (hk : k < zs.length) : ((zs.take (k + 1)).all isAm) = ((zs.take k).all isAm && isAm (zs.getD k 0)) := by
  rw [List.take_add_one, List.all_append]
  simp [List.getD, List.getElem?_eq_getElem hk]

theorem all_false_at (zs : List Int) (k : Nat) (hk : k < zs.length) (h : isAm (zs.getD k 0) = false) : zs.all isAm = false := by
  rw [Bool.eq_false_iff]; intro hall
  rw [List.all_eq_true] at hall
  have := hall (zs.getD k 0) (by simp [List.getD, List.getElem?_eq_getElem hk])
  rw [this] at h; cases h

/-! the division of two words by one -/

theorem norm_shift (y : Nat) (h1 : 1 ≤ y) (h2 : y < 2 ^ 47) : ∃ s : Nat, 64 - Lib.bitLen y = s ∧ 17 ≤ s ∧ s ≤ 63 ∧ Lib.bitLen y ≤ 64 ∧ 2 ^ 63 ≤ y * 2 ^ s ∧ y * 2 ^ s < 2 ^ 64 := by
  obtain ⟨a, b, c⟩ := Lib.bitLenAux_bounds 64 y (by omega) (by omega)
  have hle := Lib.bitLen_le y 47 (by omega) h2
  unfold Lib.bitLen at *
  generalize hL : Lib.bitLenAux 64 y = L at *
  refine ⟨64 - L, rfl, by omega, by omega, by omega, ?_, ?_⟩
  · have : 2 ^ (L - 1) * 2 ^ (64 - L) ≤ y * 2 ^ (64 - L) := Nat.mul_le_mul_right _ b
    rw [← Nat.pow_add, show L - 1 + (64 - L) = 63 by omega] at this
    exact this
  · have : y * 2 ^ (64 - L) < 2 ^ L * 2 ^ (64 - L) := Nat.mul_lt_mul_of_pos_right c (Nat.two_pow_pos _)
    rw [← Nat.pow_add, show L + (64 - L) = 64 by omega] at this
    exact this

theorem split_prod (q Y a c : Int) (hY : Y = a * 4294967296 + c) : q * Y = q * a * 4294967296 + q * c := by
  rw [hY, Int.mul_add, Int.mul_assoc]

/-- the first guess is not too small -/
theorem dig_start (U u Y a c : Int) (hY : Y = a * 4294967296 + c) (c0 : 0 ≤ c) (ha : 1 ≤ a) (hU : 0 ≤ U) (u0 : 0 ≤ u) (u1 : u < 4294967296) :
    (U * 4294967296 + u) / Y ≤ U / a := by
  have hYp : 0 < Y := by omega
  apply Int.le_ediv_of_mul_le (by omega)
  have h1 : (U * 4294967296 + u) / Y * Y ≤ U * 4294967296 + u := Int.ediv_mul_le _ (by omega)
  have hq : 0 ≤ (U * 4294967296 + u) / Y := Int.ediv_nonneg (by omega) (by omega)
  generalize (U * 4294967296 + u) / Y = q at *
  rw [split_prod q Y a c hY] at h1
  have := Int.mul_nonneg hq c0
  omega

/-- if the guess's test says 'too great', the next one is not too small -/
theorem dig_next (U u Y a c q1 r : Int) (hY : Y = a * 4294967296 + c) (hYp : 0 < Y) (hU : U < Y) (u1 : u < 4294967296) (hr : q1 * a + r = U)
    (ht : 4294967296 ≤ q1 ∨ 4294967296 * r + u < q1 * c) : (U * 4294967296 + u) / Y ≤ q1 - 1 := by
  have h1 : (U * 4294967296 + u) / Y < q1 := by
    apply Int.ediv_lt_of_lt_mul hYp
    rcases ht with ht | ht
    · have : 4294967296 * Y ≤ q1 * Y := Int.mul_le_mul_of_nonneg_right ht (by omega)
      omega
    · rw [split_prod q1 Y a c hY]; omega
  omega

/-- if the guess's test says 'not too great', it is right -/
theorem dig_done (U u Y a c q1 r : Int) (hY : Y = a * 4294967296 + c) (hYp : 0 < Y) (hr : q1 * a + r = U)
    (hq : (U * 4294967296 + u) / Y ≤ q1) (ht : q1 * c ≤ 4294967296 * r + u) : q1 = (U * 4294967296 + u) / Y := by
  have : q1 ≤ (U * 4294967296 + u) / Y := by
    apply Int.le_ediv_of_mul_le hYp
    rw [split_prod q1 Y a c hY]; omega
  omega

/-- where the rest has become as great as 2^32, the guess is right -/
theorem dig_stop (U u Y a c q1 r : Int) (hY : Y = a * 4294967296 + c) (c0 : 0 ≤ c) (c1 : c < 4294967296) (ha : 1 ≤ a) (hU : U < Y) (hr : q1 * a + r = U) (hq0 : 0 ≤ q1)
    (u0 : 0 ≤ u) (hrb : 4294967296 ≤ r) (hq : (U * 4294967296 + u) / Y ≤ q1) : q1 = (U * 4294967296 + u) / Y := by
  have hlt : q1 < 4294967296 := by
    apply Int.not_le.1; intro hge
    have := Int.mul_le_mul_of_nonneg_right hge (show 0 ≤ a by omega)
    omega
  apply dig_done U u Y a c q1 r hY (by omega) hr hq
  have h1 : q1 * c ≤ 4294967295 * 4294967295 := Int.mul_le_mul (by omega) (by omega) c0 (by omega)
  omega

/-- the digit fits 32 bits -/
theorem dig_lt (U u Y : Int) (hU0 : 0 ≤ U) (hU : U < Y) (u0 : 0 ≤ u) (u1 : u < 4294967296) : 0 ≤ (U * 4294967296 + u) / Y ∧ (U * 4294967296 + u) / Y < 4294967296 := by
  constructor
  · exact Int.ediv_nonneg (by omega) (by omega)
  · apply Int.ediv_lt_of_lt_mul (by omega); omega

/-- what is left behind a digit, in wrapped words -/
theorem dig_rest (U u Y q : Int) (hY : 0 < Y) (hY1 : Y ≤ 18446744073709551616) (hq : q = (U * 4294967296 + u) / Y) :
    IntKind.u64.wrap (IntKind.u64.wrap (IntKind.u64.wrap (U * 4294967296) + u) - IntKind.u64.wrap (q * Y)) = (U * 4294967296 + u) % Y := by
  have h1 := Int.emod_add_mul_ediv (U * 4294967296 + u) Y
  have h2 := Int.emod_nonneg (U * 4294967296 + u) (show Y ≠ 0 by omega)
  have h3 := Int.emod_lt_of_pos (U * 4294967296 + u) hY
  rw [← hq, Int.mul_comm Y q] at h1
  simp only [IntKind.wrap_u64]
  omega

theorem dig_quot (U u0 u1 Y : Int) (hY : 0 < Y) :
    (U * 4294967296 + u1) / Y * 4294967296 + ((U * 4294967296 + u1) % Y * 4294967296 + u0) / Y = ((U * 4294967296 + u1) * 4294967296 + u0) / Y := by
  have h1 := Int.emod_add_mul_ediv (U * 4294967296 + u1) Y
  generalize U * 4294967296 + u1 = N at *
  have : N * 4294967296 + u0 = (N % Y * 4294967296 + u0) + (N / Y * 4294967296) * Y := by
    have e : N / Y * 4294967296 * Y = Y * (N / Y) * 4294967296 := by
      rw [Int.mul_right_comm, Int.mul_comm (N / Y) Y]
    rw [e]; omega
  rw [this, Int.add_mul_ediv_right _ _ (by omega)]
  omega

theorem dig_rem (U u0 u1 Y : Int) :
    ((U * 4294967296 + u1) % Y * 4294967296 + u0) % Y = ((U * 4294967296 + u1) * 4294967296 + u0) % Y := by
  have h1 := Int.emod_add_mul_ediv (U * 4294967296 + u1) Y
  generalize U * 4294967296 + u1 = N at *
  have : N * 4294967296 + u0 = (N % Y * 4294967296 + u0) + (N / Y * 4294967296) * Y := by
    have e : N / Y * 4294967296 * Y = Y * (N / Y) * 4294967296 := by
      rw [Int.mul_right_comm, Int.mul_comm (N / Y) Y]
    rw [e]; omega
  rw [this, Int.add_mul_emod_self_right]

/-- two words as one number -/
def twoW (hi lo : Int) : Int := hi * 18446744073709551616 + lo

/-- the upper and the lower word -/
def hiW (p : Int) : Int := p / 18446744073709551616
def loW (p : Int) : Int := p % 18446744073709551616
theorem hiW_big (p c : Int) (h : 128849018880000 * c < p) (hp : p < 18446744073709551616 * c) (hc : 0 < c): hiW p < c := by unfold hiW; exact Int.ediv_lt_of_lt_mul (by omega) (by rw [Int.mul_comm]; omega)
theorem hiW_ge (p c : Int) (h : c ≤ hiW p) (hc : 0 < c) : 18446744073709551616 ≤ p / c := by
  apply Int.le_ediv_of_mul_le hc
  unfold hiW at h; rw [Int.mul_comm]; omega
theorem twoW_split (p : Int) : twoW (hiW p) (loW p) = p := by unfold twoW hiW loW; omega
theorem loW_nonneg (p : Int) : 0 ≤ loW p := by unfold loW; omega
theorem loW_le (p : Int) : loW p ≤ 18446744073709551615 := by unfold loW; omega
theorem hiW_nonneg (p : Int) (h : 0 ≤ p) : 0 ≤ hiW p := by unfold hiW; omega

theorem or_add (h g : Int) (s : Nat) (h0 : 0 ≤ h) (g0 : 0 ≤ g) (gs : g < 2 ^ s) (b : h * 2 ^ s + g < 18446744073709551616) : bits .or .u64 (h * 2 ^ s) g = h * 2 ^ s + g := by
  obtain ⟨A, rfl⟩ := Int.eq_ofNat_of_zero_le h0
  obtain ⟨B, rfl⟩ := Int.eq_ofNat_of_zero_le g0
  have e : ((A : Int) * 2 ^ s) = ((A * 2 ^ s : Nat) : Int) := by simp
  have gs' : B < 2 ^ s := by exact_mod_cast gs
  rw [e] at b ⊢
  rw [u64_or_nat _ _ (by omega) (by omega), Nat.mul_comm A, ← Nat.two_pow_add_eq_or_of_lt gs']
  omega

theorem and_low (n : Int) (h0 : 0 ≤ n) (h1 : n ≤ 18446744073709551615) : bits .and .u64 n 4294967295 = n % 4294967296 := by
  obtain ⟨A, rfl⟩ := Int.eq_ofNat_of_zero_le h0
  have := u64_and_nat A 4294967295 (by omega) (by omega)
  rw [nat_mask32] at this
  simpa using this

theorem shift_low (lo : Int) (s : Nat) (h0 : 0 ≤ lo) (hs : s ≤ 64) :
    lo * 2 ^ s = lo / 2 ^ (64 - s) * 18446744073709551616 + lo * 2 ^ s % 18446744073709551616 := by
  have hp : (2 : Int) ^ (64 - s) * 2 ^ s = 18446744073709551616 := by
    rw [← Int.pow_add, show 64 - s + s = 64 by omega]; rfl
  have hs0 : (0 : Int) < 2 ^ s := Int.pow_pos (by omega)
  have hs1 : (0 : Int) < 2 ^ (64 - s) := Int.pow_pos (by omega)
  have e1 := Int.emod_add_mul_ediv lo (2 ^ (64 - s))
  have e2 := Int.emod_nonneg lo (show (2 : Int) ^ (64 - s) ≠ 0 by omega)
  have e3 := Int.emod_lt_of_pos lo hs1
  generalize lo / 2 ^ (64 - s) = G at *
  generalize lo % 2 ^ (64 - s) = t at *
  have e4 : lo * 2 ^ s = t * 2 ^ s + G * 18446744073709551616 := by
    rw [← e1, Int.add_mul, Int.mul_right_comm, hp, Int.mul_comm G]
  have e5 : 0 ≤ t * 2 ^ s := Int.mul_nonneg e2 (by omega)
  have e6 : t * 2 ^ s < 18446744073709551616 := by
    rw [← hp]; exact Int.mul_lt_mul_of_pos_right e3 hs0
  rw [e4]; omega

/-- all that the walk of Div64 has to be told of its numbers -/
structure Shifted (hi lo y : Int) (s : Nat) (H G L U : Int) : Prop where
  G0 : 0 ≤ G
  Gs : G < 2 ^ s
  H0 : 0 ≤ H
  sum : U = H + G
  L0 : 0 ≤ L
  L1 : L < 18446744073709551616
  tot : U * 18446744073709551616 + L = twoW hi lo * 2 ^ s
  lt : U < y * 2 ^ s

theorem Shifted.mk' (hi lo y : Int) (s : Nat) (h0 : 0 ≤ hi) (h1 : hi < y) (h2 : 0 ≤ lo) (h3 : lo ≤ 18446744073709551615) (hs : s ≤ 64) :
    Shifted hi lo y s (hi * 2 ^ s) (lo / 2 ^ (64 - s)) (lo * 2 ^ s % 18446744073709551616) (hi * 2 ^ s + lo / 2 ^ (64 - s)) := by
  have hs0 : (0 : Int) < 2 ^ s := Int.pow_pos (by omega)
  have hs1 : (0 : Int) < 2 ^ (64 - s) := Int.pow_pos (by omega)
  have hp : (2 : Int) ^ s * 2 ^ (64 - s) = 18446744073709551616 := by
    rw [← Int.pow_add, show s + (64 - s) = 64 by omega]; rfl
  have tot : (hi * 2 ^ s + lo / 2 ^ (64 - s)) * 18446744073709551616 + lo * 2 ^ s % 18446744073709551616 = twoW hi lo * 2 ^ s := by
    have := shift_low lo s h2 hs
    unfold twoW
    rw [Int.add_mul, Int.add_mul, Int.mul_right_comm hi]
    omega
  have hL0 := Int.emod_nonneg (lo * 2 ^ s) (show (18446744073709551616 : Int) ≠ 0 by omega)
  have hL1 := Int.emod_lt_of_pos (lo * 2 ^ s) (show (0 : Int) < 18446744073709551616 by omega)
  refine ⟨Int.ediv_nonneg h2 (by omega), ?_, Int.mul_nonneg h0 (by omega), rfl, hL0, hL1, tot, ?_⟩
  · apply Int.ediv_lt_of_lt_mul hs1; rw [hp]; omega
  · have hlt : twoW hi lo * 2 ^ s < y * 18446744073709551616 * 2 ^ s := by
      apply Int.mul_lt_mul_of_pos_right _ hs0
      unfold twoW; omega
    rw [Int.mul_right_comm y] at hlt
    generalize hi * 2 ^ s + lo / 2 ^ (64 - s) = U at *
    generalize y * 2 ^ s = Y at *
    generalize lo * 2 ^ s % 18446744073709551616 = L at *
    omega

theorem fin_quot (U L Y N y : Int) (s : Nat) (hY : Y = y * 2 ^ s) (hYp : 0 < Y) (hU0 : 0 ≤ U) (hU : U < Y) (hY1 : Y ≤ 18446744073709551616) (L0 : 0 ≤ L) (L1 : L < 18446744073709551616)
    (tot : U * 18446744073709551616 + L = N * 2 ^ s) :
    IntKind.u64.wrap (IntKind.u64.wrap ((U * 4294967296 + L / 4294967296) / Y * 4294967296) + ((U * 4294967296 + L / 4294967296) % Y * 4294967296 + L % 4294967296) / Y) = N / y := by
  have a1 := dig_lt U (L / 4294967296) Y hU0 hU (by omega) (by omega)
  have b0 := Int.emod_nonneg (U * 4294967296 + L / 4294967296) (show Y ≠ 0 by omega)
  have b1 := Int.emod_lt_of_pos (U * 4294967296 + L / 4294967296) hYp
  have a2 := dig_lt ((U * 4294967296 + L / 4294967296) % Y) (L % 4294967296) Y b0 b1 (by omega) (by omega)
  have e := dig_quot U (L % 4294967296) (L / 4294967296) Y hYp
  have e2 : (U * 4294967296 + L / 4294967296) * 4294967296 + L % 4294967296 = N * 2 ^ s := by omega
  have hs0 : (0 : Int) < 2 ^ s := Int.pow_pos (by omega)
  rw [e2] at e
  have e3 : N * 2 ^ s / Y = N / y := by rw [hY, Int.mul_ediv_mul_of_pos_left _ _ hs0]
  rw [e3] at e
  rw [← e]
  simp only [IntKind.wrap_u64]
  omega

theorem fin_rest (U L Y N y : Int) (s : Nat) (hY : Y = y * 2 ^ s) (hYp : 0 < Y) (hY1 : Y ≤ 18446744073709551616)
    (tot : U * 18446744073709551616 + L = N * 2 ^ s) :
    IntKind.u64.wrap (IntKind.u64.wrap (IntKind.u64.wrap ((U * 4294967296 + L / 4294967296) % Y * 4294967296) + L % 4294967296) - IntKind.u64.wrap (((U * 4294967296 + L / 4294967296) % Y * 4294967296 + L % 4294967296) / Y * Y)) / 2 ^ s = N % y := by
  rw [dig_rest _ (L % 4294967296) Y _ hYp hY1 rfl, dig_rem]
  have e2 : (U * 4294967296 + L / 4294967296) * 4294967296 + L % 4294967296 = N * 2 ^ s := by omega
  have hs0 : (0 : Int) < 2 ^ s := Int.pow_pos (by omega)
  rw [e2, hY, Int.mul_comm N, Int.mul_comm y, Int.mul_emod_mul_of_pos _ _ hs0, Int.mul_ediv_cancel_left _ (by omega)]

/-- what proportion.Of returns: the error, the quotient, the remainder -/
def ofE (a b c : Int) : Int :=
  if isAm a && isAm b && isAm c then (if c = 0 then 16 else if a * b / c ≤ 128849018880000 then 0 else 15) else 2
def ofQ (a b c : Int) : Int := if ofE a b c = 0 then a * b / c else 0
def ofR (a b c : Int) : Int := if ofE a b c = 0 then a * b % c else 0

/-- what Up makes of what Of returns -/
def upE (q r e : Int) : Int := if e = 0 then (if q + (if 0 < r then 1 else 0) ≤ 128849018880000 then 0 else 15) else e
def upQ (q r e : Int) : Int := if upE q r e = 0 then q + (if 0 < r then 1 else 0) else 0
/-- what Compare returns -/
def cmpE (a b c d : Int) : Int := if isAm a && isAm b && isAm c && isAm d then (if b = 0 then 16 else if d = 0 then 16 else 0) else 2
def cmpN (x y : Int) : Int := if x < y then -1 else if y < x then 1 else 0
def cmpC (a b c d : Int) : Int := if cmpE a b c d = 0 then cmpN (a * d) (c * b) else 0

theorem ofQ_bd (a b c : Int) : 0 ≤ ofQ a b c ∧ ofQ a b c ≤ 128849018880000 := by
  unfold ofQ
  by_cases h : ofE a b c = 0
  · rw [if_pos h]
    unfold ofE at h
    split at h
    · rename_i h1
      simp only [Bool.and_eq_true, isAm_iff] at h1
      split at h
      · omega
      · split at h
        · exact ⟨Int.ediv_nonneg (Int.mul_nonneg h1.1.1.1 h1.1.2.1) h1.2.1, by assumption⟩
        · omega
    · omega
  · rw [if_neg h]; omega
theorem ofR_bd (a b c : Int) : 0 ≤ ofR a b c ∧ ofR a b c ≤ 128849018880000 := by
  unfold ofR
  by_cases h : ofE a b c = 0
  · rw [if_pos h]
    unfold ofE at h
    split at h
    · rename_i h1
      simp only [Bool.and_eq_true, isAm_iff] at h1
      split at h
      · omega
      · have := Int.emod_nonneg (a * b) (show c ≠ 0 by assumption)
        have := Int.emod_lt_of_pos (a * b) (show 0 < c by omega)
        omega
    · omega
  · rw [if_neg h]; omega

end Go.Proofs.YtdpkochkpcjioabDoor

