/- Plain arithmetic of the Gregorian calendar. No program stands in this text. -/
import Derived.Lib.Hide
namespace Go.Proofs.YtdhckbjebccdbabDoor

/-- 1 for a leap year, else 0 -/
def lp (y : Int) : Int := if (y % 4 = 0 ∧ ¬ y % 100 = 0) ∨ y % 400 = 0 then 1 else 0
/-- the number of days of a month -/
def ml (y m : Int) : Int := if m = 2 then 28 + lp y else if m = 4 ∨ m = 6 ∨ m = 9 ∨ m = 11 then 30 else 31
/-- the day with which a year begins -/
def st (y : Int) : Int := 365 * (y - 1) + (y - 1) / 4 - (y - 1) / 100 + (y - 1) / 400 - 693595
/-- the days of a year before a month -/
def cum (y m : Int) : Int :=
  (if m ≤ 1 then 0 else if m ≤ 2 then 31 else if m ≤ 3 then 59 else if m ≤ 4 then 90 else if m ≤ 5 then 120 else if m ≤ 6 then 151 else if m ≤ 7 then 181 else if m ≤ 8 then 212
    else if m ≤ 9 then 243 else if m ≤ 10 then 273 else if m ≤ 11 then 304 else if m ≤ 12 then 334 else 365) + (if m ≤ 2 then 0 else lp y)
def num (y m d : Int) : Int := st y + cum y m + d - 1
/-- a date, of whatever year -/
def VD (y m d : Int) : Prop := 1 ≤ m ∧ m ≤ 12 ∧ 1 ≤ d ∧ d ≤ ml y m

theorem lp_01 (y : Int) : 0 ≤ lp y ∧ lp y ≤ 1 := by unfold lp; split <;> omega
theorem ml_bd (y m : Int) : 28 ≤ ml y m ∧ ml y m ≤ 31 := by
  have := lp_01 y
  unfold ml; split
  · omega
  · split <;> omega
theorem cases12 {m : Int} {P : Int → Prop} (h1 : 1 ≤ m) (h2 : m ≤ 12) (p1 : P 1) (p2 : P 2) (p3 : P 3) (p4 : P 4) (p5 : P 5) (p6 : P 6) (p7 : P 7) (p8 : P 8) (p9 : P 9) (p10 : P 10) (p11 : P 11) (p12 : P 12) : P m := by
  have h : m = 1 ∨ m = 2 ∨ m = 3 ∨ m = 4 ∨ m = 5 ∨ m = 6 ∨ m = 7 ∨ m = 8 ∨ m = 9 ∨ m = 10 ∨ m = 11 ∨ m = 12 := by omega
  rcases h with h | h | h | h | h | h | h | h | h | h | h | h <;> subst h <;> assumption
theorem cum_succ (y m : Int) (h1 : 1 ≤ m) (h2 : m ≤ 12) : cum y (m + 1) = cum y m + ml y m := by
  apply cases12 (P := fun m => cum y (m + 1) = cum y m + ml y m) h1 h2 <;> simp [cum, ml] <;> omega
theorem cum_one (y : Int) : cum y 1 = 0 := by simp [cum]
theorem cum_13 (y : Int) : cum y 13 = 365 + lp y := by simp [cum]
theorem cum_up (y m : Int) (h1 : 1 ≤ m) (j : Nat) (h2 : m + j ≤ 13) : cum y m ≤ cum y (m + j) := by
  induction j with
  | zero => simp
  | succ j ih =>
    have := cum_succ y (m + j) (by omega) (by omega)
    have := ml_bd y (m + j)
    have := ih (by omega)
    rw [show m + ((j + 1 : Nat) : Int) = m + j + 1 by omega]
    omega
theorem cum_mono (y m m' : Int) (h1 : 1 ≤ m) (h : m ≤ m') (h2 : m' ≤ 13) : cum y m ≤ cum y m' := by
  have := cum_up y m h1 (m' - m).toNat (by omega)
  rw [show m + ((m' - m).toNat : Int) = m' by omega] at this
  exact this
theorem cum_bd (y m : Int) (h1 : 1 ≤ m) (h2 : m ≤ 13) : 0 ≤ cum y m ∧ cum y m ≤ 366 := by
  have a := cum_mono y 1 m (by omega) h1 h2
  have b := cum_mono y m 13 h1 h2 (by omega)
  rw [cum_one] at a
  rw [cum_13] at b
  have := lp_01 y
  omega
theorem st_succ (y : Int) : st (y + 1) = st y + 365 + lp y := by
  unfold st lp
  split <;> omega
theorem st_mono (y y' : Int) (h : y ≤ y') : st y ≤ st y' := by unfold st; omega
theorem st_1900 : st 1900 = 0 := by decide
theorem st_2174 : st 2174 = 100077 := by decide
theorem st_guess (n : Int) (h0 : 0 ≤ n) (h1 : n ≤ 100000) : st (1900 + n / 366) ≤ n := by unfold st; omega
theorem st_bd (y : Int) (h0 : 1 ≤ y) (h1 : y ≤ 10000) : -693595 ≤ st y ∧ st y ≤ 2958464 := by unfold st; omega

theorem num_year (y m d : Int) (h : VD y m d) : st y ≤ num y m d ∧ num y m d < st (y + 1) := by
  obtain ⟨h1, h2, h3, h4⟩ := h
  have a := cum_bd y m h1 (by omega)
  have b := cum_succ y m h1 h2
  have c := cum_mono y (m + 1) 13 (by omega) (by omega) (by omega)
  rw [cum_13] at c
  rw [st_succ]
  unfold num
  omega
theorem num_lt_m (y m d m' d' : Int) (h : VD y m d) (h' : VD y m' d') (hm : m < m') : num y m d < num y m' d' := by
  obtain ⟨h1, h2, h3, h4⟩ := h
  obtain ⟨g1, g2, g3, g4⟩ := h'
  have b := cum_succ y m h1 h2
  have c := cum_mono y (m + 1) m' (by omega) (by omega) (by omega)
  unfold num
  omega
theorem num_lt_y (y m d y' m' d' : Int) (h : VD y m d) (h' : VD y' m' d') (hy : y < y') : num y m d < num y' m' d' := by
  have a := num_year y m d h
  have b := num_year y' m' d' h'
  have c := st_mono (y + 1) y' (by omega)
  omega
/-- dates are ordered as days are -/
theorem num_lt (y m d y' m' d' : Int) (h : VD y m d) (h' : VD y' m' d') : num y m d < num y' m' d' ↔ (y < y' ∨ (y = y' ∧ (m < m' ∨ (m = m' ∧ d < d')))) := by
  constructor
  · intro hlt
    by_cases hy : y < y'
    · exact .inl hy
    · by_cases hy2 : y' < y
      · have := num_lt_y _ _ _ _ _ _ h' h hy2; omega
      · obtain rfl : y = y' := by omega
        refine .inr ⟨rfl, ?_⟩
        by_cases hm : m < m'
        · exact .inl hm
        · by_cases hm2 : m' < m
          · have := num_lt_m _ _ _ _ _ h' h hm2; omega
          · obtain rfl : m = m' := by omega
            exact .inr ⟨rfl, by unfold num at hlt; omega⟩
  · rintro (hy | ⟨rfl, hm | ⟨rfl, hd⟩⟩)
    · exact num_lt_y _ _ _ _ _ _ h h' hy
    · exact num_lt_m _ _ _ _ _ h h' hm
    · unfold num; omega
theorem num_inj (y m d y' m' d' : Int) (h : VD y m d) (h' : VD y' m' d') (e : num y m d = num y' m' d') : y = y' ∧ m = m' ∧ d = d' := by
  have a := num_lt y m d y' m' d' h h'
  have b := num_lt y' m' d' y m d h' h
  rw [e] at a b
  simp only [Int.lt_irrefl, false_iff] at a b
  omega

/-! the next date -/
theorem num_next (y m d : Int) (h : VD y m d) :
    (d < ml y m ∧ VD y m (d + 1) ∧ num y m (d + 1) = num y m d + 1) ∨ (d = ml y m ∧ m < 12 ∧ VD y (m + 1) 1 ∧ num y (m + 1) 1 = num y m d + 1) ∨
    (d = ml y m ∧ m = 12 ∧ VD (y + 1) 1 1 ∧ num (y + 1) 1 1 = num y m d + 1) := by
  obtain ⟨h1, h2, h3, h4⟩ := h
  by_cases hd : d < ml y m
  · exact .inl ⟨hd, ⟨h1, h2, by omega, by omega⟩, by unfold num; omega⟩
  · right
    have b := cum_succ y m h1 h2
    by_cases hm : m < 12
    · have := ml_bd y (m + 1)
      exact .inl ⟨by omega, hm, ⟨by omega, by omega, by omega, by omega⟩, by unfold num; omega⟩
    · right
      obtain rfl : m = 12 := by omega
      have := ml_bd (y + 1) 1
      have c := cum_13 y
      have e := st_succ y
      have f := cum_one (y + 1)
      have g : cum y (12 + 1) = 365 + lp y := c
      exact ⟨by omega, rfl, ⟨by omega, by omega, by omega, by omega⟩, by unfold num; omega⟩

theorem date_ex (n : Nat) : ∃ y m d : Int, 1900 ≤ y ∧ VD y m d ∧ num y m d = n := by
  induction n with
  | zero => exact ⟨1900, 1, 1, by omega, ⟨by omega, by omega, by omega, by decide⟩, by decide⟩
  | succ n ih =>
    obtain ⟨y, m, d, hy, h, e⟩ := ih
    rcases num_next y m d h with ⟨_, a, b⟩ | ⟨_, _, a, b⟩ | ⟨_, _, a, b⟩
    · exact ⟨_, _, _, hy, a, by omega⟩
    · exact ⟨_, _, _, hy, a, by omega⟩
    · exact ⟨_, _, _, by omega, a, by omega⟩

/-- the date of a day -/
noncomputable def dtE (n : Int) : Int × Int × Int := Classical.epsilon fun p => VD p.1 p.2.1 p.2.2 ∧ num p.1 p.2.1 p.2.2 = n
noncomputable def yr (n : Int) : Int := (dtE n).1
noncomputable def mo (n : Int) : Int := (dtE n).2.1
noncomputable def da (n : Int) : Int := (dtE n).2.2
theorem dt_spec (n : Int) (h : 0 ≤ n) : VD (yr n) (mo n) (da n) ∧ num (yr n) (mo n) (da n) = n := by
  obtain ⟨k, rfl⟩ := Int.eq_ofNat_of_zero_le h
  obtain ⟨y, m, d, _, hv, e⟩ := date_ex k
  exact Classical.epsilon_spec (p := fun p : Int × Int × Int => VD p.1 p.2.1 p.2.2 ∧ num p.1 p.2.1 p.2.2 = k) ⟨(y, m, d), hv, e⟩
theorem dt_of (y m d : Int) (h : VD y m d) (h0 : 0 ≤ num y m d) : yr (num y m d) = y ∧ mo (num y m d) = m ∧ da (num y m d) = d := by
  obtain ⟨a, b⟩ := dt_spec _ h0
  exact num_inj _ _ _ _ _ _ a h b
theorem yr_ge (n : Int) (h : 0 ≤ n) : 1900 ≤ yr n := by
  obtain ⟨a, b⟩ := dt_spec n h
  have c := num_year _ _ _ a
  have e := st_1900
  apply Int.not_lt.1; intro hlt
  have := st_mono (yr n + 1) 1900 (by omega)
  omega
theorem yr_le (n : Int) (h : 0 ≤ n) (h1 : n ≤ 100000) : yr n ≤ 2173 := by
  obtain ⟨a, b⟩ := dt_spec n h
  have c := num_year _ _ _ a
  have e := st_2174
  apply Int.not_lt.1; intro hlt
  have := st_mono 2174 (yr n) (by omega)
  omega
theorem num_neg (y m d : Int) (h : VD y m d) (hy : y < 1900) : num y m d < 0 := by
  have c := num_year _ _ _ h
  have := st_mono (y + 1) 1900 (by omega)
  have e := st_1900
  omega
theorem num_big (y m d : Int) (h : VD y m d) (hy : 2174 ≤ y) : 100000 < num y m d := by
  have c := num_year _ _ _ h
  have := st_mono 2174 y (by omega)
  have e := st_2174
  omega
theorem num_pos (y m d : Int) (h : VD y m d) (hy : 1900 ≤ y) : 0 ≤ num y m d := by
  have c := num_year _ _ _ h
  have := st_mono 1900 y (by omega)
  have e := st_1900
  omega

/-! so many months later -/
noncomputable def mcount (n k : Int) : Int := 12 * yr n + mo n - 1 + k
noncomputable def lat (n k : Int) : Int := num (mcount n k / 12) (mcount n k % 12 + 1) (min (da n) (ml (mcount n k / 12) (mcount n k % 12 + 1)))
theorem lat_vd (n k : Int) (h : 0 ≤ n) : VD (mcount n k / 12) (mcount n k % 12 + 1) (min (da n) (ml (mcount n k / 12) (mcount n k % 12 + 1))) := by
  obtain ⟨⟨_, _, c, _⟩, _⟩ := dt_spec n h
  have := ml_bd (mcount n k / 12) (mcount n k % 12 + 1)
  exact ⟨by omega, by omega, by omega, by omega⟩
theorem lat_dt (n k : Int) (h : 0 ≤ n) (h0 : 0 ≤ lat n k) : yr (lat n k) = mcount n k / 12 ∧ mo (lat n k) = mcount n k % 12 + 1 ∧ da (lat n k) = min (da n) (ml (mcount n k / 12) (mcount n k % 12 + 1)) :=
  dt_of _ _ _ (lat_vd n k h) h0
theorem dt_lex (n n' : Int) (h : 0 ≤ n) (h' : n ≤ n') : mcount n 0 < mcount n' 0 ∨ (yr n = yr n' ∧ mo n = mo n' ∧ da n ≤ da n') := by
  obtain ⟨a, b⟩ := dt_spec n h
  obtain ⟨a', b'⟩ := dt_spec n' (by omega)
  have c := num_lt _ _ _ _ _ _ a' a
  rw [b, b'] at c
  have c2 := mt c.2 (by omega)
  obtain ⟨_, _, _, _⟩ := a
  obtain ⟨_, _, _, _⟩ := a'
  unfold mcount
  by_cases e1 : yr n = yr n'
  · by_cases e2 : mo n = mo n'
    · right; omega
    · left; omega
  · left; omega
theorem lat_mono (n n' k : Int) (h : 0 ≤ n) (h' : n ≤ n') : lat n k ≤ lat n' k := by
  rcases dt_lex n n' h h' with c | ⟨c1, c2, c3⟩
  · have hc : mcount n k < mcount n' k := by unfold mcount at *; omega
    apply Int.le_of_lt
    unfold lat
    rw [num_lt _ _ _ _ _ _ (lat_vd n k h) (lat_vd n' k (by omega))]
    omega
  · have hc : mcount n k = mcount n' k := by unfold mcount; rw [c1, c2]
    unfold lat
    rw [hc]
    unfold num
    omega
/-- more months, later -/
theorem lat_lt (n k k' : Int) (h : 0 ≤ n) (hk : k < k') : lat n k < lat n k' := by
  unfold lat
  rw [num_lt _ _ _ _ _ _ (lat_vd n k h) (lat_vd n k' h)]
  unfold mcount
  omega
/-- the first day of a month -/
theorem first_dt (n : Int) (h : 0 ≤ n) : 0 ≤ n - da n + 1 ∧ n - da n + 1 ≤ n ∧ yr (n - da n + 1) = yr n ∧ mo (n - da n + 1) = mo n ∧ da (n - da n + 1) = 1 := by
  obtain ⟨a, b⟩ := dt_spec n h
  have hy := yr_ge n h
  obtain ⟨m1, m2, d1, d2⟩ := a
  have hv : VD (yr n) (mo n) 1 := ⟨m1, m2, by omega, by omega⟩
  have e : n - da n + 1 = num (yr n) (mo n) 1 := by unfold num at *; omega
  have p := num_pos _ _ _ hv hy
  rw [e]
  exact ⟨p, by unfold num at *; omega, dt_of _ _ _ hv p⟩
theorem lat_first (n k f : Int) (h : 0 ≤ n) (h0 : 0 ≤ lat (n - da n + 1) k) : lat (lat (n - da n + 1) k) f = lat (n - da n + 1) (k + f) := by
  obtain ⟨p, _, a, b, c⟩ := first_dt n h
  obtain ⟨a', b', c'⟩ := lat_dt _ k p h0
  rw [c] at c'
  have hl := ml_bd (mcount (n - da n + 1) k / 12) (mcount (n - da n + 1) k % 12 + 1)
  have hc : mcount (lat (n - da n + 1) k) f = mcount (n - da n + 1) (k + f) := by
    show 12 * yr (lat (n - da n + 1) k) + mo (lat (n - da n + 1) k) - 1 + f = _
    rw [a', b']; unfold mcount; omega
  generalize lat (n - da n + 1) k = L at *
  unfold lat
  rw [hc, c, c']
  have hl2 := ml_bd (mcount (n - da n + 1) (k + f) / 12) (mcount (n - da n + 1) (k + f) % 12 + 1)
  congr 1
  omega

/-! the full years from a day to another one -/
noncomputable def yrs (n n' : Int) : Int := if lat n (12 * (yr n' - yr n)) ≤ n' then yr n' - yr n else yr n' - yr n - 1
theorem lat_year (n j : Int) (h : 0 ≤ n) : st (yr n + j) ≤ lat n (12 * j) ∧ lat n (12 * j) < st (yr n + j + 1) := by
  obtain ⟨⟨m1, m2, _, _⟩, _⟩ := dt_spec n h
  have c := num_year _ _ _ (lat_vd n (12 * j) h)
  have e : mcount n (12 * j) / 12 = yr n + j := by unfold mcount; omega
  unfold lat
  rw [e] at c ⊢
  exact c
theorem day_year (n : Int) (h : 0 ≤ n) : st (yr n) ≤ n ∧ n < st (yr n + 1) := by
  obtain ⟨a, b⟩ := dt_spec n h
  have c := num_year _ _ _ a
  rw [b] at c
  exact c
theorem lat_zero (n : Int) (h : 0 ≤ n) : lat n 0 = n := by
  obtain ⟨⟨m1, m2, _, d2⟩, b⟩ := dt_spec n h
  have e1 : mcount n 0 / 12 = yr n := by unfold mcount; omega
  have e2 : mcount n 0 % 12 + 1 = mo n := by unfold mcount; omega
  unfold lat
  rw [e1, e2, show min (da n) (ml (yr n) (mo n)) = da n by omega, b]
theorem yrs_spec (n n' : Int) (h : 0 ≤ n) (h' : n ≤ n') : 0 ≤ yrs n n' ∧ lat n (12 * yrs n n') ≤ n' ∧ n' < lat n (12 * (yrs n n' + 1)) := by
  have d' := day_year n' (by omega)
  have d := day_year n h
  have hy : yr n ≤ yr n' := by
    apply Int.not_lt.1; intro hlt
    have := st_mono (yr n' + 1) (yr n) (by omega)
    omega
  unfold yrs
  split
  · rename_i hc
    have l1 := lat_year n (yr n' - yr n + 1) h
    rw [show yr n + (yr n' - yr n + 1) = yr n' + 1 by omega] at l1
    exact ⟨by omega, hc, by omega⟩
  · rename_i hc
    have l1 := lat_year n (yr n' - yr n - 1) h
    rw [show yr n + (yr n' - yr n - 1) + 1 = yr n' by omega] at l1
    rw [show yr n' - yr n - 1 + 1 = yr n' - yr n by omega]
    refine ⟨?_, by omega, by omega⟩
    by_cases e : yr n' = yr n
    · rw [e, Int.sub_self, Int.mul_zero, lat_zero n h] at hc
      omega
    · omega
theorem yrs_unique (n n' k : Int) (h : 0 ≤ n) (h' : n ≤ n') (a : lat n (12 * k) ≤ n') (b : n' < lat n (12 * (k + 1))) : k = yrs n n' := by
  obtain ⟨_, a', b'⟩ := yrs_spec n n' h h'
  by_cases h1 : k < yrs n n'
  · by_cases e : k + 1 = yrs n n'
    · rw [e] at b; omega
    · have := lat_lt n (12 * (k + 1)) (12 * yrs n n') h (by omega); omega
  · by_cases h2 : yrs n n' < k
    · by_cases e : yrs n n' + 1 = k
      · rw [e] at b'; omega
      · have := lat_lt n (12 * (yrs n n' + 1)) (12 * k) h (by omega); omega
    · omega
theorem yrs_mono (n n' n'' : Int) (h : 0 ≤ n) (h' : n ≤ n') (h2 : n' ≤ n'') : yrs n n' ≤ yrs n n'' := by
  obtain ⟨_, a, b⟩ := yrs_spec n n' h h'
  obtain ⟨_, a', b'⟩ := yrs_spec n n'' h (by omega)
  apply Int.not_lt.1; intro hlt
  by_cases e : yrs n n'' + 1 = yrs n n'
  · rw [e] at b'; omega
  · have := lat_lt n (12 * (yrs n n'' + 1)) (12 * yrs n n') h (by omega); omega
theorem yrs_le (n n' : Int) (h : 0 ≤ n) (h' : n ≤ n') (h2 : n' ≤ 100000) : yrs n n' ≤ 273 := by
  have a := yr_ge n h
  have b := yr_le n' (by omega) h2
  unfold yrs
  split <;> omega

end Go.Proofs.YtdhckbjebccdbabDoor
