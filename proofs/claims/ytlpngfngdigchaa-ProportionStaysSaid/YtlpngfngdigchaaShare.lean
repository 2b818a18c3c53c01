/- What follows from the definition of dividing: parts sum, none exceeds its weight, a factor of all weights changes nothing. -/
import Derived.Test.YtlpngfngdigchaaDraw
namespace Go.Proofs.Ytlpngfngdigchaa

theorem sum_set (l : List Int) : ∀ (i : Nat) (x : Int), i < l.length → (l.set i x).sum = l.sum + x - l.getD i 0 := by
  induction l with
  | nil => intro i x h; simp at h
  | cons z l ih =>
    intro i x h
    cases i with
    | zero => simp; omega
    | succ i => simp only [List.set_cons_succ, List.sum_cons, List.getD_cons_succ]; rw [ih i x (by simpa using h)]; omega

theorem get_set (l : List Int) (i j : Nat) (x : Int) (hi : i < l.length) : (l.set i x).getD j 0 = if i = j then x else l.getD j 0 := by
  rw [List.getD_eq_getElem?_getD, List.getElem?_set]
  by_cases h : i = j
  · subst h; rw [if_pos rfl, if_pos hi, if_pos rfl]; rfl
  · rw [if_neg h, if_neg h, ← List.getD_eq_getElem?_getD]

/-- how many of some numbers are positive -/
def posN : List Int → Nat
  | [] => 0
  | x :: l => (if 0 < x then 1 else 0) + posN l
theorem posN_set (l : List Int) : ∀ i, i < l.length → 0 < l.getD i 0 → posN (l.set i 0) + 1 = posN l := by
  induction l with
  | nil => intro i h; simp at h
  | cons z l ih =>
    intro i h hp
    cases i with
    | zero => simp at hp; simp [posN, hp]; omega
    | succ i =>
      simp only [List.set_cons_succ, posN]
      have := ih i (by simpa using h) (by simpa using hp)
      omega
theorem posN_pos (l : List Int) (h : 0 < posN l) : ∃ x ∈ l, 0 < x := by
  induction l with
  | nil => simp [posN] at h
  | cons z l ih =>
    by_cases hz : 0 < z
    · exact ⟨z, by simp, hz⟩
    · simp only [posN, if_neg hz, Nat.zero_add] at h
      obtain ⟨x, hx, hp⟩ := ih h
      exact ⟨x, by simp [hx], hp⟩
theorem posN_sum (l : List Int) (s : Int) (h : ∀ x ∈ l, 0 ≤ x ∧ x < s) : l.sum ≤ (s - 1) * posN l := by
  induction l with
  | nil => simp [posN]
  | cons z l ih =>
    have h1 := h z (by simp)
    have := ih (fun x hx => h x (by simp [hx]))
    simp only [List.sum_cons, posN]
    by_cases hz : 0 < z
    · rw [if_pos hz, Int.natCast_add, Int.mul_add]; simp; omega
    · rw [if_neg hz]; simp; omega

/-- what holds behind k rounds of giving out -/
structure Inv (k : Nat) (qs rs ps ts : List Int) : Prop where
  l1 : ps.length = qs.length
  l2 : ts.length = rs.length
  each : ∀ i, i < rs.length → (ts.getD i 0 = rs.getD i 0 ∧ ps.getD i 0 = qs.getD i 0) ∨ (ts.getD i 0 = 0 ∧ 0 < rs.getD i 0 ∧ ps.getD i 0 = qs.getD i 0 + 1)
  cnt : posN ts + k = posN rs
  sum : ps.sum = qs.sum + k

theorem inv_give (qs rs : List Int) (hl : qs.length = rs.length) : ∀ k, k ≤ posN rs → Inv k qs rs (give k (qs, rs)).1 (give k (qs, rs)).2
  | 0, _ => ⟨rfl, rfl, fun _ _ => .inl ⟨rfl, rfl⟩, by simp [give], by simp [give]⟩
  | k + 1, hk => by
    have I := inv_give qs rs hl k (by omega)
    simp only [give, giveStep]
    generalize (give k (qs, rs)).1 = ps at *
    generalize (give k (qs, rs)).2 = ts at *
    have hp : 0 < posN ts := by have := I.cnt; omega
    obtain ⟨x, hx, hx0⟩ := posN_pos ts hp
    obtain ⟨_, p1, p2, p3⟩ := pick_spec ts (by intro h; rw [h] at hx; cases hx)
    have hm : 0 < ts.getD (pick ts) 0 := by have := p3 x hx; omega
    generalize pick ts = j at *
    have l1 := I.l1
    have l2 := I.l2
    refine ⟨by simp [l1], by simp [l2], fun i hi => ?_, ?_, ?_⟩
    · rw [get_set ts j i 0 p1, get_set ps j i _ (by omega)]
      by_cases h : j = i
      · subst h
        rw [if_pos rfl, if_pos rfl]
        right
        rcases I.each j hi with ⟨e1, e2⟩ | ⟨e1, _, _⟩
        · exact ⟨rfl, by omega, by omega⟩
        · omega
      · rw [if_neg h, if_neg h]; exact I.each i hi
    · have := posN_set ts j p1 hm
      have := I.cnt
      omega
    · rw [sum_set ps j _ (by omega)]
      have := I.sum
      omega

theorem divL_pos (a : Int) (ws : List Int) (h : divE a ws = 0) : divL a ws ≤ posN (divR a ws) := by
  obtain ⟨h1, h2⟩ := divE_zero h
  obtain ⟨t1, t2, t3, t4, t5⟩ := totE_zero h2
  obtain ⟨d1, d2, d3⟩ := div_left a ws h1 h2
  have e : (divQ a ws).sum * ws.sum + (divR a ws).sum = a * ws.sum := div_sums a ws.sum ws
  have hb := posN_sum (divR a ws) ws.sum (fun x hx => by
    unfold divR at hx
    obtain ⟨y, hy, rfl⟩ := List.mem_map.1 hx
    have := of_weight a y ws h1 h2 hy
    omega)
  have e2 : (divR a ws).sum = (divL a ws : Int) * ws.sum := by rw [d3, Int.sub_mul]; omega
  rw [e2] at hb
  apply Nat.le_of_not_lt
  intro hlt
  have h3 : ((posN (divR a ws) : Int) + 1) * ws.sum ≤ (divL a ws : Int) * ws.sum := Int.mul_le_mul_of_nonneg_right (by omega) (by omega)
  have h4 : (ws.sum - 1) * (posN (divR a ws) : Int) = posN (divR a ws) * ws.sum - posN (divR a ws) := by rw [Int.sub_mul, Int.mul_comm ws.sum]; omega
  rw [Int.add_mul] at h3
  omega

theorem div_inv (a : Int) (ws : List Int) (h : divE a ws = 0) : Inv (divL a ws) (divQ a ws) (divR a ws) (divP a ws) (give (divL a ws) (divQ a ws, divR a ws)).2 := by
  have := inv_give (divQ a ws) (divR a ws) (by simp [divQ, divR]) (divL a ws) (divL_pos a ws h)
  unfold divP; rw [if_pos h]; exact this

/-- parts sum to the amount -/
theorem divP_sum (a : Int) (ws : List Int) (h : divE a ws = 0) : (divP a ws).sum = a := by
  obtain ⟨h1, h2⟩ := divE_zero h
  obtain ⟨d1, d2, d3⟩ := div_left a ws h1 h2
  have := (div_inv a ws h).sum
  omega

/-- what is drawn of a part is not more than the part -/
theorem divP_le (a : Int) (ws : List Int) (h : divE a ws = 0) (hle : a ≤ ws.sum) (k : Nat) (hk : k < ws.length) : 0 ≤ (divP a ws).getD k 0 ∧ (divP a ws).getD k 0 ≤ ws.getD k 0 := by
  obtain ⟨h1, h2⟩ := divE_zero h
  obtain ⟨t1, t2, t3, t4, t5⟩ := totE_zero h2
  refine ⟨(divP_bd a ws h k).1, ?_⟩
  have I := (div_inv a ws h).each k (by simpa [divR] using hk)
  rw [divQ_get a ws k hk, divR_get a ws k hk] at I
  have hx : ws.getD k 0 ∈ ws := by simp [List.getD, List.getElem?_eq_getElem hk]
  obtain ⟨_, _, _, q0, _, r0, r1⟩ := of_weight a (ws.getD k 0) ws h1 h2 hx
  obtain ⟨x0, x1⟩ := (isAm_iff _).1 (all_get ws t3 k hk)
  generalize ws.getD k 0 = x at *
  have e := Int.emod_add_mul_ediv (a * x) ws.sum
  have hm : a * x ≤ ws.sum * x := Int.mul_le_mul_of_nonneg_right hle x0
  rcases I with ⟨_, e2⟩ | ⟨_, e1, e2⟩
  · rw [e2]
    apply Int.le_of_mul_le_mul_left (a := ws.sum) _ t5
    omega
  · rw [e2]
    have : a * x / ws.sum < x := by
      apply Int.lt_of_mul_lt_mul_left (a := ws.sum) _ (by omega)
      omega
    omega

/-- drawing everything leaves nothing -/
theorem divP_all (ws : List Int) (h : divE ws.sum ws = 0) : divP ws.sum ws = ws := by
  obtain ⟨h1, h2⟩ := divE_zero h
  obtain ⟨t1, t2, t3, t4, t5⟩ := totE_zero h2
  have eq : divQ ws.sum ws = ws := by
    unfold divQ
    conv => rhs; rw [← List.map_id ws]
    apply List.map_congr_left
    intro x _
    rw [Int.mul_ediv_cancel_left _ (by omega)]; rfl
  have el : divL ws.sum ws = 0 := by unfold divL; rw [eq]; omega
  unfold divP; rw [if_pos h, el, eq]; rfl

theorem divE_sum (a : Int) (ws : List Int) (h : divE a ws = 0) : divE ws.sum ws = 0 := by
  obtain ⟨h1, h2⟩ := divE_zero h
  obtain ⟨t1, t2, t3, t4, t5⟩ := totE_zero h2
  unfold divE; rw [t4, if_pos rfl]; exact h2

/-! ### a factor of all weights -/
theorem maxOf_scale (rs : List Int) (c : Int) (hc : 0 < c) : Lib.maxOf (rs.map (· * c)) = Lib.maxOf rs * c := by
  have fold : ∀ (l : List Int) (a : Int), (l.map (· * c)).foldl max (a * c) = l.foldl max a * c := by
    intro l
    induction l with
    | nil => intro a; rfl
    | cons z l ih =>
      intro a
      simp only [List.map_cons, List.foldl_cons]
      rw [show max (a * c) (z * c) = max a z * c by
        by_cases h : a ≤ z
        · have := Int.mul_le_mul_of_nonneg_right h (show 0 ≤ c by omega)
          rw [show max a z = z by omega]; omega
        · have := Int.mul_le_mul_of_nonneg_right (show z ≤ a by omega) (show 0 ≤ c by omega)
          rw [show max a z = a by omega]; omega]
      exact ih _
  unfold Lib.maxOf
  cases rs with
  | nil => simp
  | cons z l => exact fold (z :: l) z
theorem idxFrom_scale (c : Int) (hc : 0 < c) (x : Int) : ∀ (rs : List Int) (i : Nat), Lib.idxFrom (rs.map (· * c)) (x * c) i = Lib.idxFrom rs x i
  | [], _ => rfl
  | z :: rs, i => by
    simp only [List.map_cons, Lib.idxFrom]
    rw [idxFrom_scale c hc x rs (i + 1)]
    by_cases h : z = x
    · rw [if_pos h, if_pos (by rw [h])]
    · rw [if_neg h, if_neg (fun e => h (Int.eq_of_mul_eq_mul_right (by omega) e))]
theorem pick_scale (rs : List Int) (c : Int) (hc : 0 < c) : pick (rs.map (· * c)) = pick rs := by
  unfold pick Lib.idxOf
  rw [maxOf_scale rs c hc, idxFrom_scale c hc]
theorem give_scale (k : Nat) (qs rs : List Int) (c : Int) (hc : 0 < c) : (give k (qs, rs.map (· * c))) = ((give k (qs, rs)).1, (give k (qs, rs)).2.map (· * c)) := by
  induction k with
  | zero => rfl
  | succ k ih =>
    simp only [give]
    rw [ih]
    simp only [giveStep]
    rw [pick_scale _ c hc, List.map_set, Int.zero_mul]
theorem sum_scale (ws : List Int) (c : Int) : (ws.map (· * c)).sum = ws.sum * c := by
  induction ws with
  | nil => simp
  | cons z ws ih => simp only [List.map_cons, List.sum_cons, ih, Int.add_mul]
theorem divP_scale (a : Int) (ws : List Int) (c : Int) (hc : 0 < c) (h1 : divE a ws = 0) (h2 : divE a (ws.map (· * c)) = 0) : divP a (ws.map (· * c)) = divP a ws := by
  have eq : divQ a (ws.map (· * c)) = divQ a ws := by
    unfold divQ
    rw [sum_scale, List.map_map]
    apply List.map_congr_left
    intro x _
    simp only [Function.comp]
    rw [← Int.mul_assoc, Int.mul_ediv_mul_of_pos_left _ _ hc]
  have er : divR a (ws.map (· * c)) = (divR a ws).map (· * c) := by
    unfold divR
    rw [sum_scale, List.map_map, List.map_map]
    apply List.map_congr_left
    intro x _
    simp only [Function.comp]
    rw [← Int.mul_assoc, Int.mul_comm (a * x), Int.mul_comm ws.sum, Int.mul_emod_mul_of_pos _ _ hc, Int.mul_comm c]
  have el : divL a (ws.map (· * c)) = divL a ws := by unfold divL; rw [eq]
  unfold divP
  rw [if_pos h1, if_pos h2, el, eq, er, give_scale _ _ _ c hc]

end Go.Proofs.Ytlpngfngdigchaa
