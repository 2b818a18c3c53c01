/- The reference of layer 4: later, Later, Years. -/
import Derived.Test.YtdhckbjebccdbabDoorRefD
namespace Go.Proofs.YtdhckbjebccdbabDoor
open Go.RowKit

theorem refLater_neg (n k y m d : Int) (w : World) (k0 : -4000 ≤ k) (k1 : k ≤ 4000) (y0 : 1900 ≤ y) (y1 : y ≤ 2173) (m0 : 1 ≤ m) (m1 : m ≤ 12)
    (HD : Hid (∀ W, Calls Tryd.prog 31 #[.int .i64 n] W fun e w' => e = .returned (.agg #[.int .i64 y, .int .i64 m, .int .i64 d]) ∧ Below W.heap.size W w'))
    (h : 12 * y + m - 1 + k < 22800) :
    Calls Tryd.prog 34 #[.int .i64 n, .int .i64 k] w fun e w' => e = .returned (.int .i64 (-1)) ∧ Below w.heap.size w w' := by
  go_enter Tryd.func34, Tryd.ntmps34
  go_wp2_with fail
  refine (HD.out _).mono ?_
  rintro e w1 ⟨rfl, hb⟩
  have HB := Lib.hid hb; clear hb
  go_wp2
  go_returns
  exact ⟨rfl, bel_trans HB.out (bel_alloc (Below.refl _ _))⟩

set_option maxHeartbeats 1000000 in
theorem refLater_core (n k y m d Y M L N : Int) (w : World) (k0 : -4000 ≤ k) (k1 : k ≤ 4000) (y0 : 1900 ≤ y) (y1 : y ≤ 2173) (m0 : 1 ≤ m) (m1 : m ≤ 12) (d0 : 1 ≤ d) (d1 : d ≤ 31)
    (HD : Hid (∀ W, Calls Tryd.prog 31 #[.int .i64 n] W fun e w' => e = .returned (.agg #[.int .i64 y, .int .i64 m, .int .i64 d]) ∧ Below W.heap.size W w'))
    (h : ¬ 12 * y + m - 1 + k < 22800) (hY : (12 * y + m - 1 + k) / 12 = Y) (hM : (12 * y + m - 1 + k) % 12 + 1 = M) (hL : ml Y M = L) (hN : num Y M (min d L) = N) :
    Calls Tryd.prog 34 #[.int .i64 n, .int .i64 k] w fun e w' => e = .returned (.int .i64 N) ∧ Below w.heap.size w w' := by
  have b1 : 1900 ≤ Y ∧ Y ≤ 2600 ∧ 1 ≤ M ∧ M ≤ 12 := by omega
  obtain ⟨y2, y3, m2, m3⟩ := b1
  have l := ml_bd Y M
  rw [hL] at l
  obtain ⟨l0, l1⟩ := l
  have HY := Lib.hid hY
  have HM := Lib.hid hM
  have HL := Lib.hid (fun W => refLength_any Y M W (by omega) (by omega) m2 m3)
  rw [hL] at HL
  have HN := Lib.hid (fun W => refNumber_any Y M (min d L) W (by omega) (by omega) m2 m3 (by omega) (by omega))
  rw [hN] at HN
  clear hY hM hL hN
  go_enter Tryd.func34, Tryd.ntmps34
  go_wp2_with fail
  refine (HD.out _).mono ?_
  rintro e w1 ⟨rfl, hb⟩
  have HB := Lib.hid hb; clear hb
  go_wp2
  rw [HY.out, HM.out]
  first | (go_region_with (first | (go_at_call 32; refine (HL.out _).mono ?_; rintro e w2 ⟨rfl, hb2⟩; (try (have c2 := ((bcell hb2).1 w1.heap.size 2 (by simp)).trans (show _ = some (Value.int .i64 d) by simp [go_sem])))) | (go_at_call 33; refine (HN.out _).mono ?_; rintro e w3 ⟨rfl, hb3⟩))) | fail
  all_goals
    have HC := Lib.hid (bel_trans HB.out (bel_alloc (bel_trans (bel_drew _) (bel_trans hb2 hb3))))
    clear hb2 hb3
    go_wp2
    go_returns
    exact ⟨rfl, HC.out⟩

/-- what the reference's later returns -/
noncomputable def latR (n k : Int) : Int := if 12 * yr n + mo n - 1 + k < 22800 then -1 else lat n k
theorem latR_day (n k : Int) (h : 0 ≤ n) : dayB (latR n k) = dayB (lat n k) ∧ (dayB (lat n k) = true → latR n k = lat n k) := by
  unfold latR
  split
  · rename_i hc
    have hv := lat_vd n k h
    have : lat n k < 0 := by
      unfold lat
      refine num_neg _ _ _ hv ?_
      unfold mcount; omega
    have e : dayB (lat n k) = false := (dayB_not _).2 (by omega)
    rw [e]; exact ⟨rfl, fun h => by cases h⟩
  · exact ⟨rfl, fun _ => rfl⟩
theorem latR_pos (n k : Int) (h : 0 ≤ n) (hk : 0 ≤ k) : latR n k = lat n k := by
  have a := yr_ge n h
  obtain ⟨⟨b, _⟩, _⟩ := dt_spec n h
  unfold latR
  rw [if_neg (by omega)]

theorem refLat_any (n k : Int) (w : World) (n0 : 0 ≤ n) (n1 : n ≤ 100000) (k0 : -4000 ≤ k) (k1 : k ≤ 4000) :
    Calls Tryd.prog 34 #[.int .i64 n, .int .i64 k] w fun e w' => e = .returned (.int .i64 (latR n k)) ∧ Below w.heap.size w w' := by
  obtain ⟨hv, hn⟩ := dt_spec n n0
  have HD := Lib.hid (fun W => refOf_yes n _ _ _ W n0 n1 hv hn)
  obtain ⟨m0, m1, d0, d1⟩ := hv
  have hl := ml_bd (yr n) (mo n)
  unfold latR
  split
  · rename_i hc
    exact refLater_neg n k _ _ _ w k0 k1 (yr_ge n n0) (yr_le n n0 n1) m0 m1 HD hc
  · rename_i hc
    exact refLater_core n k _ _ _ _ _ _ _ w k0 k1 (yr_ge n n0) (yr_le n n0 n1) m0 m1 d0 (by omega) HD hc rfl rfl rfl rfl

theorem refLater_no (n k : Int) (w : World) (h : (dayB n = false) ∨ (dayB n = true ∧ k < -3600) ∨ (dayB n = true ∧ 3600 < k)) :
    Calls Tryd.prog 20 #[.int .i64 n, .int .i64 k] w fun e w' => e = .returned (.tuple #[.int .i64 0, .int .i64 2]) ∧ Below w.heap.size w w' := by
  rcases h with h | ⟨h, hk⟩ | ⟨h, hk⟩
  all_goals
    have H := Lib.hid h; clear h
    go_enter Tryd.func20, Tryd.ntmps20
    go_wp2_with (go_at_call 30; refine (refIsDay_any _ _).mono ?_; rw [H.out]; rintro e w' ⟨rfl, hw⟩; subst hw)
    go_returns
    exact ⟨rfl, Below.refl _ _⟩

theorem refLater_core2 (n k L N E : Int) (b : Bool) (w : World) (h : Hid (dayB n = true)) (k0 : -3600 ≤ k) (k1 : k ≤ 3600)
    (HL : Hid (∀ W, Calls Tryd.prog 34 #[.int .i64 n, .int .i64 k] W fun e w' => e = .returned (.int .i64 L) ∧ Below W.heap.size W w'))
    (hb : Hid (dayB L = b)) (he : (b = true ∧ N = L ∧ E = 0) ∨ (b = false ∧ N = 0 ∧ E = 15)) :
    Calls Tryd.prog 20 #[.int .i64 n, .int .i64 k] w fun e w' => e = .returned (.tuple #[.int .i64 N, .int .i64 E]) ∧ Below w.heap.size w w' := by
  rcases he with ⟨rfl, rfl, rfl⟩ | ⟨rfl, rfl, rfl⟩
  all_goals
    go_enter Tryd.func20, Tryd.ntmps20
    go_wp2_with (go_at_call 30; refine (refIsDay_any _ _).mono ?_; rw [h.out]; rintro e w' ⟨rfl, hw⟩; subst hw)
    refine (HL.out _).mono ?_
    rintro e w1 ⟨rfl, h1⟩
    have HB := Lib.hid h1; clear h1
    go_wp2_with (go_at_call 30; refine (refIsDay_any _ _).mono ?_; rw [hb.out]; rintro e w' ⟨rfl, hw⟩; subst hw)
    go_returns
    exact ⟨rfl, HB.out⟩

theorem refLater_any (n k : Int) (w : World) :
    Calls Tryd.prog 20 #[.int .i64 n, .int .i64 k] w fun e w' => e = .returned (.tuple #[.int .i64 (laN n k), .int .i64 (laE n k)]) ∧ Below w.heap.size w w' := by
  cases hb : dayB n with
  | false =>
    rw [show laN n k = 0 by simp [laN, hb], show laE n k = 2 by simp [laE, hb]]
    exact refLater_no n k w (.inl hb)
  | true =>
    cases hk : monB k with
    | false =>
      rw [show laN n k = 0 by simp [laN, hk], show laE n k = 2 by simp [laE, hk]]
      have : ¬ (-3600 ≤ k ∧ k ≤ 3600) := by rw [← monB_iff, hk]; simp
      refine refLater_no n k w ?_
      by_cases h : k < -3600
      · exact .inr (.inl ⟨hb, h⟩)
      · exact .inr (.inr ⟨hb, by omega⟩)
    | true =>
      obtain ⟨k0, k1⟩ := (monB_iff k).1 hk
      obtain ⟨n0, n1⟩ := (dayB_iff n).1 hb
      obtain ⟨a, b⟩ := latR_day n k n0
      refine refLater_core2 n k (latR n k) _ _ _ w hb k0 k1 (fun W => refLat_any n k W n0 n1 (by omega) (by omega)) rfl ?_
      rw [a]
      unfold laN laE
      cases hx : dayB (lat n k) with
      | true => left; rw [b hx]; simp [hb, hk]
      | false => right; simp [hb, hk]

theorem refYears_no (n k : Int) (w : World) (nb : -9223372036854775808 ≤ n ∧ n ≤ 9223372036854775807) (kb : -9223372036854775808 ≤ k ∧ k ≤ 9223372036854775807) (h : dayB n = false ∨ (dayB n = true ∧ dayB k = false)) :
    Calls Tryd.prog 22 #[.int .i64 n, .int .i64 k] w fun e w' => e = .returned (.tuple #[.int .i64 0, .int .i64 2]) ∧ Below w.heap.size w w' := by
  rcases h with h | ⟨h, h2⟩
  · have H := Lib.hid h; clear h
    go_enter Tryd.func22, Tryd.ntmps22
    go_wp2_with (go_at_call 30; refine (refIsDay_any _ _).mono ?_; rw [H.out]; rintro e w' ⟨rfl, hw⟩; subst hw)
    go_returns
    exact ⟨rfl, Below.refl _ _⟩
  · have H := Lib.hid h; clear h
    have H2 := Lib.hid h2; clear h2
    go_enter Tryd.func22, Tryd.ntmps22
    go_wp2_with fail
    refine (refIsDay_any _ _).mono ?_; rw [H.out]; rintro e w' ⟨rfl, hw⟩; subst hw
    go_wp2_with fail
    refine (refIsDay_any _ _).mono ?_; rw [H2.out]; rintro e w' ⟨rfl, hw⟩; subst hw
    go_wp2
    go_returns
    exact ⟨rfl, Below.refl _ _⟩

theorem refYears_core (n k N : Int) (w : World) (h : Hid (dayB n = true)) (h2 : Hid (dayB k = true)) (n0 : 0 ≤ n) (n1 : n ≤ 100000) (k0 : 0 ≤ k) (k1 : k ≤ 100000) (hn : n ≤ k → Hid (yrs n k = N) ∧ N ≤ 273) :
    Calls Tryd.prog 22 #[.int .i64 n, .int .i64 k] w fun e w' => e = .returned (.tuple #[.int .i64 (if n ≤ k then N else 0), .int .i64 (if n ≤ k then 0 else 5)]) ∧ Below w.heap.size w w' := by
  by_cases hle : n ≤ k
  · rw [if_pos hle, if_pos hle]
    obtain ⟨hY, hN1⟩ := hn hle
    obtain ⟨s0, s1, s2⟩ := yrs_spec n k n0 hle
    rw [hY.out] at s0 s1 s2
    have HL : Hid (∀ (j : Int) W, 0 ≤ j → j ≤ 300 → Calls Tryd.prog 34 #[.int .i64 n, .int .i64 (12 * j)] W fun e w' => e = .returned (.int .i64 (lat n (12 * j))) ∧ Below W.heap.size W w') := fun j W j0 j1 => by
      rw [← latR_pos n (12 * j) n0 (by omega)]
      exact refLat_any n (12 * j) W n0 n1 (by omega) (by omega)
    have HG : Hid (∀ j : Int, j < N → lat n (12 * (j + 1)) ≤ k) := fun j hj => by
      by_cases e : j + 1 = N
      · rw [e]; exact s1
      · have := lat_lt n (12 * (j + 1)) (12 * N) n0 (by omega); omega
    have HS := Lib.hid s2
    clear hn hY s1 s2
    go_enter Tryd.func22, Tryd.ntmps22
    go_wp2_with fail
    refine (refIsDay_any _ _).mono ?_; rw [h.out]; rintro e w' ⟨rfl, hw⟩; subst hw
    go_wp2_with fail
    refine (refIsDay_any _ _).mono ?_; rw [h2.out]; rintro e w' ⟨rfl, hw⟩; subst hw
    go_wp2_with fail
    go_loopw [6] (fun t wr => ∃ j : Int, 0 ≤ j ∧ j ≤ N ∧ t = .int .i64 j ∧ Hid (Below w.heap.size w wr)) (fun t _ => (N - intOf t).toNat)
    case atStart => exact ⟨0, by omega, s0, rfl, Below.refl _ _⟩
    case round =>
      obtain ⟨j, j0, j1, rfl, hb⟩ := hrel
      by_cases hlt : j < N
      · have hg := HG.out j hlt
        have HL2 := Lib.hid (fun W => HL.out (j + 1) W (by omega) (by omega))
        generalize lat n (12 * (j + 1)) = L at *
        go_wp2_with (go_at_call 34; refine (HL2.out _).mono ?_; rintro e w2 ⟨rfl, h2⟩; replace hb := Lib.hid (bel_trans hb.out h2); clear h2)
        go_roundw
        case rel => exact ⟨j + 1, by omega, by omega, rfl, hb⟩
        case measure => simp [intOf]; omega
      · obtain rfl : j = N := by omega
        have hg := HS.out
        have HL2 := Lib.hid (fun W => HL.out (j + 1) W (by omega) (by omega))
        clear HS
        generalize lat n (12 * (j + 1)) = L at *
        go_wp2_with (go_at_call 34; refine (HL2.out _).mono ?_; rintro e w2 ⟨rfl, h2⟩; replace hb := Lib.hid (bel_trans hb.out h2); clear h2)
        go_returns
        exact ⟨rfl, hb.out⟩
  · rw [if_neg hle, if_neg hle]
    clear hn
    go_enter Tryd.func22, Tryd.ntmps22
    go_wp2_with fail
    refine (refIsDay_any _ _).mono ?_; rw [h.out]; rintro e w' ⟨rfl, hw⟩; subst hw
    go_wp2_with fail
    refine (refIsDay_any _ _).mono ?_; rw [h2.out]; rintro e w' ⟨rfl, hw⟩; subst hw
    go_wp2
    go_returns
    exact ⟨rfl, Below.refl _ _⟩

theorem refYears_any (n k : Int) (w : World) (nb : -9223372036854775808 ≤ n ∧ n ≤ 9223372036854775807) (kb : -9223372036854775808 ≤ k ∧ k ≤ 9223372036854775807) :
    Calls Tryd.prog 22 #[.int .i64 n, .int .i64 k] w fun e w' => e = .returned (.tuple #[.int .i64 (yeN n k), .int .i64 (yeE n k)]) ∧ Below w.heap.size w w' := by
  unfold yeN yeE
  cases hb : dayB n with
  | false => simp only [Bool.false_eq_true, false_and, if_false]; exact refYears_no n k w nb kb (.inl hb)
  | true =>
    cases hk : dayB k with
    | false => simp only [Bool.false_eq_true, false_and, and_false, if_false]; exact refYears_no n k w nb kb (.inr ⟨hb, hk⟩)
    | true =>
      obtain ⟨n0, n1⟩ := (dayB_iff n).1 hb
      obtain ⟨k0, k1⟩ := (dayB_iff k).1 hk
      simp only [true_and, if_true]
      exact refYears_core n k (yrs n k) w hb hk n0 n1 k0 k1 (fun hle => ⟨rfl, yrs_le n k n0 hle k1⟩)
end Go.Proofs.YtdhckbjebccdbabDoor
