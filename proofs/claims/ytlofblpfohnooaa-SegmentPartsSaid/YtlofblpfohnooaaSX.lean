/- Plain facts: from below a circle to above it the bounds overlap with those of the whole area. No program stands in this text. -/
import Derived.Test.YtlofblpfohnooaaSQ
namespace Go.Proofs.Ytlofblpfohnooaa

/-! ### small circles: unit strips -/
def sumTo (f : Nat → Int) : Nat → Int
  | 0 => 0
  | n + 1 => sumTo f n + f n
theorem sumTo_same {f g : Nat → Int} (n : Nat) (h : ∀ k, k < n → f k = g k) : sumTo f n = sumTo g n := by
  induction n with
  | zero => rfl
  | succ n ih =>
    show sumTo f n + f n = sumTo g n + g n
    rw [ih (fun k hk => h k (by omega)), h n (by omega)]
noncomputable def unL (r y : Int) : Int := 2 * sumTo (fun k => hcL r (k + 1)) y.toNat
noncomputable def unH (r y : Int) : Int := 2 * sumTo (fun k => hcH r k) y.toNat
theorem un_low (r : Int) (hr : 0 ≤ r) : LowP 1 r 0 (unL r) := by
  have key : ∀ (n a : Nat), 2 * ((n : Int) * hcL r (a + n)) ≤ unL r (a + n) - unL r a := by
    intro n a
    induction n with
    | zero => simp
    | succ n ih =>
      have e : unL r ((a : Int) + ((n + 1 : Nat) : Int)) = unL r (a + n) + 2 * hcL r (a + n + 1) := by
        unfold unL
        rw [show ((a : Int) + ((n + 1 : Nat) : Int)).toNat = a + n + 1 by omega, show ((a : Int) + (n : Int)).toNat = a + n by omega]
        show 2 * (sumTo _ (a + n) + hcL r (((a + n : Nat) : Int) + 1)) = _
        rw [Int.natCast_add]; omega
      have g := (hc_further r (a + n) (a + n + 1) hr (by omega) (by omega)).1
      have m := Int.mul_le_mul_of_nonneg_left g (show (0 : Int) ≤ n by omega)
      rw [e, show (a : Int) + ((n + 1 : Nat) : Int) = a + n + 1 by omega, show ((n + 1 : Nat) : Int) = (n : Int) + 1 by omega, Int.add_mul]
      omega
  have stp : ∀ a b : Int, 0 ≤ a → a ≤ b → 2 * ((b - a) * hcL r b) ≤ unL r b - unL r a := by
    intro a b a0 ab
    obtain ⟨A, rfl⟩ := Int.eq_ofNat_of_zero_le a0
    obtain ⟨n, hn⟩ := Int.eq_ofNat_of_zero_le (show 0 ≤ b - A by omega)
    obtain rfl : b = A + n := by omega
    rw [hn]
    exact key n A
  have z : unL r 0 = 0 := by simp [unL, sumTo]
  refine ⟨fun a b a0 ab _ _ => by rw [Int.one_mul]; exact stp a b a0 ab, fun b b0 _ => ?_, fun a b a0 ab _ => ?_⟩
  · have := stp 0 b (by omega) b0
    rw [z, Int.sub_zero, Int.sub_zero] at this
    rw [Int.one_mul]; exact this
  · have := stp a b a0 ab
    have := Int.mul_nonneg (show 0 ≤ b - a by omega) (hc_le r b hr).1
    omega
theorem un_high (r : Int) (hr : 0 ≤ r) : HighP 1 r 0 (unH r) := by
  have key : ∀ (n a : Nat), unH r (a + n) - unH r a ≤ 2 * ((n : Int) * hcH r a) := by
    intro n a
    induction n with
    | zero => simp
    | succ n ih =>
      have e : unH r ((a : Int) + ((n + 1 : Nat) : Int)) = unH r (a + n) + 2 * hcH r (a + n) := by
        unfold unH
        rw [show ((a : Int) + ((n + 1 : Nat) : Int)).toNat = a + n + 1 by omega, show ((a : Int) + (n : Int)).toNat = a + n by omega]
        show 2 * (sumTo _ (a + n) + hcH r ((a + n : Nat) : Int)) = _
        rw [Int.natCast_add]; omega
      have g := (hc_further r a (a + n) hr (by omega) (by omega)).2
      rw [e, show ((n + 1 : Nat) : Int) = (n : Int) + 1 by omega, Int.add_mul]
      omega
  have stp : ∀ a b : Int, 0 ≤ a → a ≤ b → unH r b - unH r a ≤ 2 * ((b - a) * hcH r a) := by
    intro a b a0 ab
    obtain ⟨A, rfl⟩ := Int.eq_ofNat_of_zero_le a0
    obtain ⟨n, hn⟩ := Int.eq_ofNat_of_zero_le (show 0 ≤ b - A by omega)
    obtain rfl : b = A + n := by omega
    rw [hn]
    exact key n A
  have z : unH r 0 = 0 := by simp [unH, sumTo]
  refine ⟨fun a w a0 ar _ w0 => ?_, fun b b0 => ?_⟩
  · rw [Int.one_mul]
    have := stp a (min (a + w) r) a0 (by omega)
    have g := (hc_le r a hr)
    have := Int.mul_le_mul_of_nonneg_right (show min (a + w) r - a ≤ w by omega) (show 0 ≤ hcH r a by omega)
    omega
  · rw [Int.one_mul]
    have := stp 0 (min b r) (by omega) (by omega)
    rw [z, hcH_zero r hr, Int.sub_zero, Int.sub_zero] at this
    have := Int.mul_le_mul_of_nonneg_right (show min b r ≤ b by omega) hr
    omega

/-- the root of a small number, reckoned -/
def iqs (n : Nat) : Nat → Nat → Nat
  | 0, q => q
  | k + 1, q => if (q + 2 ^ k) * (q + 2 ^ k) ≤ n then iqs n k (q + 2 ^ k) else iqs n k q
theorem iqs_spec (n : Nat) : ∀ (k q : Nat), q * q ≤ n → n < (q + 2 ^ k) * (q + 2 ^ k) → iqs n k q * iqs n k q ≤ n ∧ n < (iqs n k q + 1) * (iqs n k q + 1) := by
  intro k
  induction k with
  | zero => intro q h1 h2; exact ⟨h1, by show n < (q + 1) * (q + 1); simpa using h2⟩
  | succ k ih =>
    intro q h1 h2
    unfold iqs
    by_cases h : (q + 2 ^ k) * (q + 2 ^ k) ≤ n
    · rw [if_pos h]
      refine ih _ h ?_
      rw [show q + 2 ^ k + 2 ^ k = q + 2 ^ (k + 1) by rw [Nat.pow_succ]; omega]; exact h2
    · rw [if_neg h]
      exact ih q h1 (by omega)
def iq (n : Nat) : Nat := iqs n 7 0
def ic (n : Nat) : Nat := if iq n * iq n < n then iq n + 1 else iq n
theorem rt_iq (n : Nat) (h : n < 16384) : rt n = iq n := by
  obtain ⟨h1, h2⟩ := iqs_spec n 7 0 (by omega) (by simpa using h)
  exact rt_of (by omega) (by exact_mod_cast h1) (by exact_mod_cast h2)
theorem ce_ic (n : Nat) (h : n < 16384) : ce n = ic n := by
  unfold ce ic
  rw [rt_iq n h]
  by_cases g : iq n * iq n < n
  · rw [if_pos g, if_pos (by exact_mod_cast g)]; simp
  · rw [if_neg g, if_neg (by exact_mod_cast g)]
def addTo (f : Nat → Nat) : Nat → Nat
  | 0 => 0
  | n + 1 => addTo f n + f n
theorem sum_add (f : Nat → Nat) (n : Nat) : sumTo (fun k => (f k : Int)) n = (addTo f n : Int) := by
  induction n with
  | zero => rfl
  | succ n ih =>
    show sumTo _ n + (f n : Int) = ((addTo f n + f n : Nat) : Int)
    rw [ih, Int.natCast_add]
def smallOk (R : Nat) : Bool := decide (452 * addTo (fun k => iq (R * R - (k + 1) * (k + 1))) R ≤ 355 * (R * R)) && decide (333 * (R * R) < 424 * addTo (fun k => ic (R * R - k * k)) R + 106)
theorem small_ok : ∀ R, R < 96 → smallOk R = true := by decide +kernel
theorem sq_nat {k R : Nat} (h : k ≤ R) : ((R * R - k * k : Nat) : Int) = (R : Int) * R - (k : Int) * k := by
  have := Nat.mul_le_mul h h
  rw [Int.ofNat_sub this, Int.natCast_mul, Int.natCast_mul]
theorem unL_small (R : Nat) (h : R < 96) : 226 * unL R R ≤ 355 * ((R : Int) * R) := by
  have ok := small_ok R h
  simp only [smallOk, Bool.and_eq_true, decide_eq_true_eq] at ok
  have e : sumTo (fun k => hcL R (k + 1)) R = (addTo (fun k => iq (R * R - (k + 1) * (k + 1))) R : Int) := by
    rw [← sum_add]
    refine sumTo_same R fun k hk => ?_
    show hcL R ((k : Int) + 1) = _
    rw [← rt_iq _ (by have := Nat.mul_le_mul (show R ≤ 95 by omega) (show R ≤ 95 by omega); omega), sq_nat (by omega)]
    unfold hcL
    rw [if_neg (by omega), Int.natCast_add, Int.natCast_one]
  unfold unL
  rw [Int.toNat_natCast, e]
  have := ok.1
  have e2 : ((R * R : Nat) : Int) = (R : Int) * R := Int.natCast_mul _ _
  omega
theorem unH_small (R : Nat) (h : R < 96) : 333 * ((R : Int) * R) < 212 * unH R R + 106 := by
  have ok := small_ok R h
  simp only [smallOk, Bool.and_eq_true, decide_eq_true_eq] at ok
  have e : sumTo (fun k => hcH R k) R = (addTo (fun k => ic (R * R - k * k)) R : Int) := by
    rw [← sum_add]
    refine sumTo_same R fun k hk => ?_
    show hcH R (k : Int) = _
    rw [← ce_ic _ (by have := Nat.mul_le_mul (show R ≤ 95 by omega) (show R ≤ 95 by omega); omega), sq_nat (by omega)]
    unfold hcH
    rw [if_neg (by omega)]
  unfold unH
  rw [Int.toNat_natCast, e]
  have := ok.2
  have e2 : ((R * R : Nat) : Int) = (R : Int) * R := Int.natCast_mul _ _
  omega

/-! ### heights of n strips -/
def hs (top : Int) (n : Nat) : List Int := (List.range (n + 1)).map fun (i : Nat) => (i : Int) * top / n
theorem hs_len (top : Int) (n : Nat) : (hs top n).length = n + 1 := by simp [hs]
theorem hs_get (top : Int) (n i : Nat) (h : i ≤ n) : (hs top n).getD i 0 = (i : Int) * top / n := by
  unfold hs
  rw [List.getD_eq_getElem?_getD, List.getElem?_map, List.getElem?_range (by omega)]
  rfl
theorem hs_wide (top : Int) (n i : Nat) (hn : 1 ≤ n) (h : i < n) : top / n ≤ (hs top n).getD (i + 1) 0 - (hs top n).getD i 0 := by
  rw [hs_get _ _ _ (by omega), hs_get _ _ _ (by omega)]
  have e : ((i + 1 : Nat) : Int) * top = i * top + top := by rw [Int.natCast_add, Int.add_mul]; simp
  rw [e]
  have h0 : (0 : Int) < n := by omega
  have a := Int.ediv_mul_le ((i : Int) * top) (show (n : Int) ≠ 0 by omega)
  have b := Int.ediv_mul_le top (show (n : Int) ≠ 0 by omega)
  have : (i : Int) * top / n + top / n ≤ (i * top + top) / n := by
    apply Int.le_ediv_of_mul_le h0
    rw [Int.add_mul]; omega
  omega
theorem hs_right (top : Int) (n : Nat) (hn : 1 ≤ n) (hn2 : n ≤ 64) (h0 : 0 ≤ top) (h1 : top ≤ 200000) : HR (hs top n) := by
  have hp : (0 : Int) < n := by omega
  have hw : 0 ≤ top / n := Int.ediv_nonneg h0 (by omega)
  refine ⟨by rw [hs_len]; omega, by rw [hs_len]; omega, fun i hi => ?_, fun i hi => ?_⟩
  · rw [hs_len] at hi
    rw [hs_get _ _ _ (by omega)]
    refine ⟨Int.ediv_nonneg (Int.mul_nonneg (by omega) h0) (by omega), ?_⟩
    have : (i : Int) * top / n < 200001 := by
      apply Int.ediv_lt_of_lt_mul hp
      have m1 := Int.mul_le_mul_of_nonneg_right (show (i : Int) ≤ n by omega) h0
      have m2 := Int.mul_le_mul_of_nonneg_left h1 (show (0 : Int) ≤ n by omega)
      omega
    omega
  · rw [hs_len] at hi
    have := hs_wide top n i hn (by omega)
    omega
theorem whole (R : Nat) (c : Int) (n : Nat) (hR : R ≤ 100000) (hc : (R : Int) ≤ c) (hc2 : c ≤ 100000) (hn : 1 ≤ n) (hn2 : n ≤ 64) :
    113 * prL R c (hs (c + R) n) n ≤ 355 * ((R : Int) * R) ∧ 333 * ((R : Int) * R) < 106 * prH R c (hs (c + R) n) n + 106 := by
  have hr := hs_right (c + R) n hn hn2 (by omega) (by omega)
  have g0 : (hs (c + R) n).getD 0 0 = 0 := by rw [hs_get _ _ _ (by omega)]; simp
  have gn : (hs (c + R) n).getD n 0 = c + R := by
    rw [hs_get _ _ _ (by omega)]
    exact Int.mul_ediv_cancel_left _ (by omega)
  have wid : ∀ i, i < n → (c + R) / n ≤ (hs (c + R) n).getD (i + 1) 0 - (hs (c + R) n).getD i 0 := fun i hi => hs_wide _ n i hn hi
  have w0 : 0 ≤ (c + R) / n := Int.ediv_nonneg (by omega) (by omega)
  by_cases hs96 : R < 96
  · have l := low_sum (un_low R (by omega)) (by omega) (by omega) c (hs (c + R) n) n (fun i hi => by have := wid i hi; omega)
    have h := high_sum (un_high R (by omega)) (by omega) (by omega) (by simp [unH, sumTo]) c (hs (c + R) n) n (fun i hi => by have := wid i hi; omega)
    rw [g0, gn] at l h
    have e1 : c + R - c = R := by omega
    rw [e1, Int.one_mul] at l h
    have s1 := unL_small R hs96
    have s2 := unH_small R hs96
    have p0 : unL R 0 = 0 := by simp [unL, sumTo]
    have p1 : unH R 0 = 0 := by simp [unH, sumTo]
    rw [od_pos _ _ _ (by omega), show min (R : Int) R = R by omega] at l h
    by_cases hz : c = 0
    · obtain rfl : R = 0 := by omega
      subst hz
      rw [od_pos _ _ _ (by omega)] at l h
      simp at l h ⊢
      omega
    · rw [od_neg _ _ _ (by omega), show min (-(0 - c)) (R : Int) = R by omega] at l h
      omega
  · have d32 : (R : Int) / 32 ≤ (c + R) / n := by
      apply Int.le_ediv_of_mul_le (by omega)
      have m := Int.mul_le_mul_of_nonneg_left (show (n : Int) ≤ 64 by omega) (show 0 ≤ (R : Int) / 32 by omega)
      omega
    have hU : LowP 100000 R ((R : Int) / 32) (phiU (gU R) ((R : Int) / 32)) := by
      refine lowP_of (M := 350000) (gU_conc R) (by omega) (by omega) (by omega) (fun y h1 h2 => hcL_up R y (by omega) h1 h2) (fun k => ?_) ?_
      · have g := gU_le R k
        have := gU_ge R (k + 1) (gU R k - 350000) ⟨by omega, by omega, by omega, by omega, by omega, by omega⟩
        omega
      · have := gU_ge R R (14100 * R) ⟨by omega, by omega, by omega, by omega, by omega, by omega⟩
        omega
    have hL : HighP 100000 R ((R : Int) / 32) (psiL (gL R) ((R : Int) / 32) (100000 * R)) := by
      refine highP_of (gL_conc R) (by omega) (by omega) (by omega) ?_ rfl (fun k hk => ?_) (fun y h1 h2 => hcH_low R y (by omega) h1 h2)
      · exact gL_ge R R 0 ⟨by omega, by omega, by omega, by omega, by omega, by omega, by omega, by omega, by omega⟩
      · have := (gL_le R k).1
        have := gL_ge R k (100000 * R) ⟨by omega, by omega, by omega, by omega, by omega, by omega, by omega, by omega, by omega⟩
        omega
    have l := low_sum hU (by omega) (by omega) c (hs (c + R) n) n (fun i hi => by have := wid i hi; omega)
    have p1 : psiL (gL R) ((R : Int) / 32) (100000 * R) 0 = 0 := by
      have := (gL_le R (0 - 2 * ((R : Int) / 32))).1
      have h2 := gL_ge R (0 - 2 * ((R : Int) / 32)) (100000 * R) ⟨by omega, by omega, by omega, by omega, by omega, by omega, by omega, by omega, by omega⟩
      have e : gL R (0 - 2 * ((R : Int) / 32)) = 100000 * R := by omega
      unfold psiL
      rw [e]; simp [tz]
    have h := high_sum hL (by omega) (by omega) p1 c (hs (c + R) n) n (fun i hi => by have := wid i hi; omega)
    rw [g0, gn] at l h
    have e1 : c + R - c = R := by omega
    rw [e1, od_pos _ _ _ (by omega), od_neg _ _ _ (by omega), show min (-(0 - c)) (R : Int) = R by omega, show min (R : Int) R = R by omega] at l h
    have s1 := phi_total R (by omega)
    have s2 := psi_total R (by omega)
    generalize phiU (gU R) ((R : Int) / 32) R = P at *
    generalize psiL (gL R) ((R : Int) / 32) (100000 * R) R = Q at *
    generalize prL R c (hs (c + R) n) n = X at *
    generalize prH R c (hs (c + R) n) n = Y at *
    omega
end Go.Proofs.Ytlofblpfohnooaa
