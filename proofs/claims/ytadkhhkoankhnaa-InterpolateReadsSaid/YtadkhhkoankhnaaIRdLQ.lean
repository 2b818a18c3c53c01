/-
  The statement InterpolateReads of spile/spilelaw18 holds: for every input the call returns true, and each argument reads afterwards as it read before.
-/
import Derived.Test.YtadkhhkoankhnaaM2
import Derived.Below
import Derived.Carry

set_option linter.unusedVariables false
set_option linter.unusedSimpArgs false

namespace Go.Proofs.Ytadkhhkoankhnaa
open Go.RowKit

set_option maxHeartbeats 4000000 in
theorem rfDen_any (v : Value) (l : List (Int × Int)) (s : Int) (w : World) (hv : Pts w v l) :
    Calls Try.prog 18 #[v, .int .i64 s] w fun e w' => e = .returned (.tuple #[.int .i64 (denV l s), .int .i64 (denE l s)]) ∧ Below w.heap.size w w' := by
  have HR := Lib.hid (rnRt_any v l w hv)
  by_cases he : dnE l = 0
  · have hD := dnE_zero.1 he
    rw [show (dnE l == 0) = true by simpa using he] at HR
    by_cases h0 : s < 0
    · have e1 : denE l s = 2 := by unfold denE; rw [if_neg (by omega), if_neg (by omega)]
      have e2 : denV l s = 0 := denV_no (by omega)
      rw [e1, e2]
      have d0 : decide (s < 0) = true := decide_eq_true h0
      go_enter Try.func18, Try.ntmps18
      go_wp2_with fail
      refine HR.out.mono ?_
      rintro e w1 ⟨rfl, gg⟩
      have X := Lib.hid gg; clear gg
      go_wp2
      go_returns
      exact ⟨rfl, X.out⟩
    · have d0 : decide (s < 0) = false := decide_eq_false h0
      by_cases h1 : 10000 < s
      · have e1 : denE l s = 2 := by unfold denE; rw [if_neg (by omega), if_neg (by omega)]
        have e2 : denV l s = 0 := denV_no (by omega)
        rw [e1, e2]
        have d1 : decide (10000 < s) = true := decide_eq_true h1
        go_enter Try.func18, Try.ntmps18
        go_wp2_with fail
        refine HR.out.mono ?_
        rintro e w1 ⟨rfl, gg⟩
        have X := Lib.hid gg; clear gg
        go_wp2
        go_returns
        exact ⟨rfl, X.out⟩
      · have e1 : denE l s = 0 := denE_zero.2 ⟨hD, by omega, by omega⟩
        have e2 : denV l s = atD l s := denV_ok e1
        have HC := Lib.hid (fun W (hW : Below w.heap.size w W) => rfAt_any v l s W (hv.below hW) hD (by omega) (by omega))
        rw [e1, e2]
        have d1 : decide (10000 < s) = false := decide_eq_false h1
        clear e1 e2
        generalize atD l s = V at *
        go_enter Try.func18, Try.ntmps18
        go_wp2_with fail
        refine HR.out.mono ?_
        rintro e w1 ⟨rfl, gg⟩
        have X := Lib.hid gg; clear gg
        go_wp2_with fail
        refine (HC.out _ X.out).mono ?_
        rintro e w2 ⟨rfl, gg⟩
        replace X := Lib.hid (bel_trans X.out gg); clear gg
        go_wp2
        go_returns
        exact ⟨rfl, X.out⟩
  · have e1 : denE l s = 1 := by unfold denE; rw [if_pos he]
    have e2 : denV l s = 0 := denV_no (by omega)
    rw [e1, e2]
    rw [show (dnE l == 0) = false by simpa using he] at HR
    go_enter Try.func18, Try.ntmps18
    go_wp2_with fail
    refine HR.out.mono ?_
    rintro e w1 ⟨rfl, gg⟩
    have X := Lib.hid gg; clear gg
    go_wp2
    go_returns
    exact ⟨rfl, X.out⟩

set_option maxHeartbeats 8000000 in
theorem rfRe_any (v : Value) (l : List (Int × Int)) (y : Int) (w : World) (hv : Pts w v l) (hD : DR l) (hy : y ≤ atD l 0) :
    Calls Try.prog 55 #[v, .int .i64 y] w fun e w' => e = .returned (.int .i64 ((blN l y : Int) - 1)) ∧ Below w.heap.size w w' := by
  obtain ⟨p0, p1, p2⟩ := blN_spec hD y
  have HC := Lib.hid (fun W (s : Int) (hW : Below w.heap.size w W) (s0 : 0 ≤ s) (s1 : s ≤ 10000) => rfAt_any v l s W (hv.below hW) hD s0 s1)
  have b1 : 1 ≤ blN l y := by
    rcases Nat.eq_zero_or_pos (blN l y) with g | g
    · have := p2 0 (by omega) (by omega); omega
    · omega
  have FK : Hid (∀ s : Int, 0 ≤ s → s ≤ 10000 → (y ≤ atD l s ↔ s ≤ (blN l y : Int) - 1)) := Lib.hid fun s s0 s1 => by
    constructor
    · intro g
      rcases Int.lt_or_le ((blN l y : Int) - 1) s with q | q
      · have := p2 s (by omega) s1; omega
      · exact q
    · intro g
      exact p1 s s0 (by omega)
  have k0 : 0 ≤ (blN l y : Int) - 1 := by omega
  have k1 : (blN l y : Int) - 1 ≤ 10000 := by omega
  clear p1 p2 p0 b1 hv hD
  generalize (blN l y : Int) - 1 = K at *
  replace k0 := Lib.hid k0
  replace k1 := Lib.hid k1
  go_enter Try.func55, Try.ntmps55
  go_wp2_with fail
  go_loopw [5, 6] (fun s5 s6 wr => ∃ lo hi : Int, s5 = .int .i64 lo ∧ s6 = .int .i64 hi ∧ 0 ≤ lo ∧ hi ≤ 10000 ∧ Hid (lo ≤ K ∧ K ≤ hi) ∧ Hid (Below w.heap.size w wr)) (fun s5 s6 _ => (intOf s6 - intOf s5).toNat)
  case atStart => exact ⟨0, 10000, rfl, rfl, by omega, by omega, ⟨k0.out, k1.out⟩, Below.refl _ _⟩
  case round =>
    obtain ⟨lo, hi, rfl, rfl, h0, h1, hK, hB⟩ := hrel
    by_cases hlt : lo < hi
    · have w1 : IntKind.i64.wrap (lo + hi) = lo + hi := wrap_in _ ⟨by omega, by omega⟩
      have w2 : IntKind.i64.wrap (lo + hi + 1) = lo + hi + 1 := wrap_in _ ⟨by omega, by omega⟩
      have q1 : (lo + hi + 1).tdiv 2 = (lo + hi + 1) / 2 := Int.tdiv_eq_ediv_of_nonneg (by omega)
      have w3 : IntKind.i64.wrap ((lo + hi + 1) / 2) = (lo + hi + 1) / 2 := wrap_in _ ⟨by omega, by omega⟩
      have m0 : lo < (lo + hi + 1) / 2 := by omega
      have m1 : (lo + hi + 1) / 2 ≤ hi := by omega
      have w4 : IntKind.i64.wrap ((lo + hi + 1) / 2 - 1) = (lo + hi + 1) / 2 - 1 := wrap_in _ ⟨by omega, by omega⟩
      have fk := FK.out ((lo + hi + 1) / 2) (by omega) (by omega)
      have HC2 := Lib.hid (HC.out _ ((lo + hi + 1) / 2) hB.out (by omega) (by omega))
      by_cases g : y ≤ atD l ((lo + hi + 1) / 2)
      · have d : decide (y ≤ atD l ((lo + hi + 1) / 2)) = true := decide_eq_true g
        have g2 := Lib.hid (fk.1 g)
        clear fk g
        generalize atD l ((lo + hi + 1) / 2) = V at *
        go_wp2_with fail
        refine HC2.out.mono ?_
        rintro e w2 ⟨rfl, gg⟩
        have X := Lib.hid (bel_trans hB.out gg); clear gg
        go_wp2
        go_roundw
        case rel => exact ⟨(lo + hi + 1) / 2, hi, by first | rfl | go_num, rfl, by omega, h1, ⟨g2.out, hK.out.2⟩, X⟩
        case measure => simp [intOf]; omega
      · have d : decide (y ≤ atD l ((lo + hi + 1) / 2)) = false := decide_eq_false g
        have g2 : Hid (¬ (lo + hi + 1) / 2 ≤ K) := Lib.hid (fun q => g (fk.2 q))
        clear fk g
        generalize atD l ((lo + hi + 1) / 2) = V at *
        go_wp2_with fail
        refine HC2.out.mono ?_
        rintro e w2 ⟨rfl, gg⟩
        have X := Lib.hid (bel_trans hB.out gg); clear gg
        go_wp2
        go_roundw
        case rel => exact ⟨lo, (lo + hi + 1) / 2 - 1, rfl, by first | rfl | go_num, h0, by omega, ⟨hK.out.1, by have := g2.out; omega⟩, X⟩
        case measure => simp [intOf]; omega
    · have e : lo = K := by have := hK.out; omega
      replace e := Lib.hid e
      go_wp2
      go_returns
      exact ⟨by rw [e.out]; rfl, hB.out⟩
theorem DR.a0 {l : List (Int × Int)} (h : DR l) : atD l 0 = gR l 0 := by
  have := atD_row h (k := 0) (by have := h.n0; omega)
  rwa [h.z] at this
theorem bl_zero {l : List (Int × Int)} (h : DR l) {y : Int} (g : atD l 0 < y) : blN l y = 0 := by
  obtain ⟨p0, p1, p2⟩ := blN_spec h y
  rcases Nat.eq_zero_or_pos (blN l y) with q | q
  · exact q
  · have := p1 0 (by omega) (by omega); omega
theorem bl_pos {l : List (Int × Int)} (h : DR l) {y : Int} (g : y ≤ atD l 0) : 1 ≤ blN l y ∧ blN l y ≤ 10001 := by
  obtain ⟨p0, p1, p2⟩ := blN_spec h y
  rcases Nat.eq_zero_or_pos (blN l y) with q | q
  · have := p2 0 (by omega) (by omega); omega
  · omega
set_option maxHeartbeats 8000000 in
theorem rs_no (a : Option Addr) (n cap : Nat) (l : List (Int × Int)) (d : Int) (w : World) (HV : Hid (Pts w (.slice a n cap) l))
    (HR : Hid (Calls Try.prog 51 #[.slice a n cap] w fun e w' => e = .returned (.bool false) ∧ Below w.heap.size w w')) :
    Calls Try.prog 20 #[.slice a n cap, .int .i64 d] w fun e w' => e = .returned (.tuple #[.int .i64 0, .int .i64 1]) ∧ Below w.heap.size w w' := by
  go_enter Try.func20, Try.ntmps20
  go_wp2_with fail
  refine HR.out.mono ?_
  rintro e w1 ⟨rfl, gg⟩
  have X := Lib.hid gg; clear gg
  go_wp2
  go_returns
  exact ⟨rfl, X.out⟩
set_option maxHeartbeats 8000000 in
theorem rs_lo (a : Option Addr) (n cap : Nat) (l : List (Int × Int)) (d : Int) (w : World) (HV : Hid (Pts w (.slice a n cap) l)) (g1 : decide (d < 50000) = true)
    (HR : Hid (Calls Try.prog 51 #[.slice a n cap] w fun e w' => e = .returned (.bool true) ∧ Below w.heap.size w w')) :
    Calls Try.prog 20 #[.slice a n cap, .int .i64 d] w fun e w' => e = .returned (.tuple #[.int .i64 0, .int .i64 2]) ∧ Below w.heap.size w w' := by
  go_enter Try.func20, Try.ntmps20
  go_wp2_with fail
  refine HR.out.mono ?_
  rintro e w1 ⟨rfl, gg⟩
  have X := Lib.hid gg; clear gg
  go_wp2
  go_returns
  exact ⟨rfl, X.out⟩
set_option maxHeartbeats 8000000 in
theorem rs_hi (a : Option Addr) (n cap : Nat) (l : List (Int × Int)) (d : Int) (w : World) (HV : Hid (Pts w (.slice a n cap) l)) (g1 : decide (d < 50000) = false) (g2 : decide (120000 < d) = true)
    (HR : Hid (Calls Try.prog 51 #[.slice a n cap] w fun e w' => e = .returned (.bool true) ∧ Below w.heap.size w w')) :
    Calls Try.prog 20 #[.slice a n cap, .int .i64 d] w fun e w' => e = .returned (.tuple #[.int .i64 0, .int .i64 2]) ∧ Below w.heap.size w w' := by
  go_enter Try.func20, Try.ntmps20
  go_wp2_with fail
  refine HR.out.mono ?_
  rintro e w1 ⟨rfl, gg⟩
  have X := Lib.hid gg; clear gg
  go_wp2
  go_returns
  exact ⟨rfl, X.out⟩
set_option maxHeartbeats 8000000 in
theorem rs_far (a : Option Addr) (n cap : Nat) (l : List (Int × Int)) (d : Int) (w : World) (HV : Hid (Pts w (.slice a n cap) l)) (n0 : 2 ≤ n) (g1 : decide (d < 50000) = false) (g2 : decide (120000 < d) = false) (g3 : decide (gR l 0 < d) = true)
    (HR : Hid (Calls Try.prog 51 #[.slice a n cap] w fun e w' => e = .returned (.bool true) ∧ Below w.heap.size w w')) :
    Calls Try.prog 20 #[.slice a n cap, .int .i64 d] w fun e w' => e = .returned (.tuple #[.int .i64 0, .int .i64 2]) ∧ Below w.heap.size w w' := by
  have l0 : (0 : Int) < (n : Int) := by omega
  go_enter Try.func20, Try.ntmps20
  go_wp2_with fail
  refine HR.out.mono ?_
  rintro e w1 ⟨rfl, gg⟩
  obtain ⟨b, off, rfl, hb, hc⟩ := HV.out.at (by omega)
  have c9 := (hc 0 (by omega)).2
  replace c9 := cell_bel c9 gg
  clear hc
  generalize gR l 0 = r0 at *
  have X := Lib.hid gg; clear gg
  go_wp2
  go_returns
  exact ⟨rfl, X.out⟩
set_option maxHeartbeats 8000000 in
theorem rs_ok (a : Option Addr) (n cap : Nat) (l : List (Int × Int)) (d K : Int) (w : World) (HV : Hid (Pts w (.slice a n cap) l)) (n0 : 2 ≤ n) (g1 : decide (d < 50000) = false) (g2 : decide (120000 < d) = false) (g3 : decide (gR l 0 < d) = false)
    (HR : Hid (Calls Try.prog 51 #[.slice a n cap] w fun e w' => e = .returned (.bool true) ∧ Below w.heap.size w w'))
    (HK : Hid (∀ W, Below w.heap.size w W → Calls Try.prog 55 #[.slice a n cap, .int .i64 d] W fun e w' => e = .returned (.int .i64 K) ∧ Below W.heap.size W w')) :
    Calls Try.prog 20 #[.slice a n cap, .int .i64 d] w fun e w' => e = .returned (.tuple #[.int .i64 K, .int .i64 0]) ∧ Below w.heap.size w w' := by
  have l0 : (0 : Int) < (n : Int) := by omega
  go_enter Try.func20, Try.ntmps20
  go_wp2_with fail
  refine HR.out.mono ?_
  rintro e w1 ⟨rfl, gg⟩
  obtain ⟨b, off, rfl, hb, hc⟩ := HV.out.at (by omega)
  have c9 := (hc 0 (by omega)).2
  replace c9 := cell_bel c9 gg
  clear hc
  generalize gR l 0 = r0 at *
  have X := Lib.hid gg; clear gg
  go_wp2_with fail
  refine (HK.out _ X.out).mono ?_
  rintro e w2 ⟨rfl, gg⟩
  replace X := Lib.hid (bel_trans X.out gg); clear gg
  go_wp2
  go_returns
  exact ⟨rfl, X.out⟩
theorem rfSt_any (v : Value) (l : List (Int × Int)) (d : Int) (w : World) (hv : Pts w v l) :
    Calls Try.prog 20 #[v, .int .i64 d] w fun e w' => e = .returned (.tuple #[.int .i64 (itsV l d), .int .i64 (itsE l d)]) ∧ Below w.heap.size w w' := by
  have HR := rnRt_any v l w hv
  have hv2 := Lib.hid hv
  obtain ⟨a, cap, rfl, _, _⟩ := hv.shape
  by_cases he : dnE l = 0
  · have hD := dnE_zero.1 he
    have n0 := hD.n0
    rw [show (dnE l == 0) = true by simpa using he] at HR
    by_cases e1 : itsE l d = 0
    · obtain ⟨_, bd, g⟩ := itsE_zero.1 e1
      have g' := g
      rw [hD.a0] at g'
      rw [show itsV l d = (blN l d : Int) - 1 by unfold itsV; rw [if_pos e1], e1]
      exact rs_ok a l.length cap l d _ w hv2 n0 (decide_eq_false (by omega)) (decide_eq_false (by omega)) (decide_eq_false (by omega)) (Lib.hid HR) (Lib.hid fun W hW => rfRe_any _ l d W (hv2.out.below hW) hD g)
    · have e2 : itsE l d = 2 := by
        unfold itsE at e1 ⊢
        rw [if_neg (by omega)] at e1 ⊢
        split at e1
        · exact absurd rfl e1
        · rename_i q; rw [if_neg q]
      rw [show itsV l d = 0 by unfold itsV; rw [if_neg e1], e2]
      by_cases g1 : d < 50000
      · exact rs_lo a l.length cap l d w hv2 (decide_eq_true g1) (Lib.hid HR)
      · by_cases g2 : 120000 < d
        · exact rs_hi a l.length cap l d w hv2 (decide_eq_false g1) (decide_eq_true g2) (Lib.hid HR)
        · have g3 : gR l 0 < d := by
            rcases Int.lt_or_le (gR l 0) d with q | q
            · exact q
            · exact absurd (itsE_zero.2 ⟨hD, by omega, by rw [hD.a0]; exact q⟩) e1
          exact rs_far a l.length cap l d w hv2 n0 (decide_eq_false g1) (decide_eq_false g2) (decide_eq_true g3) (Lib.hid HR)
  · rw [show (dnE l == 0) = false by simpa using he] at HR
    have e2 : itsE l d = 1 := by unfold itsE; rw [if_pos he]
    rw [show itsV l d = 0 by unfold itsV; rw [if_neg (by omega)], e2]
    exact rs_no a l.length cap l d w hv2 (Lib.hid HR)
set_option maxHeartbeats 8000000 in
theorem rg_no (a : Option Addr) (n cap : Nat) (l : List (Int × Int)) (d : Int) (w : World) (HV : Hid (Pts w (.slice a n cap) l))
    (HR : Hid (∀ W, Below w.heap.size w W → Calls Try.prog 51 #[.slice a n cap] W fun e w' => e = .returned (.bool false) ∧ Below W.heap.size W w')) :
    Calls Try.prog 22 #[.slice a n cap, .int .i64 d] w fun e w' => e = .returned (.tuple #[.agg #[.int .i64 0, .int .i64 0], .int .i64 1]) ∧ Below w.heap.size w w' := by
  have T0 := Lib.hid (Two.new w (.int .i64 0) (.int .i64 0) 29)
  have X := Lib.hid (bel_alloc (w := w) (o := .cells #[.int .i64 0, .int .i64 0] 29) (Below.refl _ _))
  go_enter Try.func22, Try.ntmps22
  go_wp2_with fail
  refine (HR.out _ X.out).mono ?_
  rintro e w1 ⟨rfl, gg⟩
  replace T0 := Lib.hid (T0.out.below gg)
  replace X := Lib.hid (bel_trans X.out gg)
  clear gg
  obtain ⟨z0, z1, f0, f1, hlt⟩ := T0.out
  go_wp2
  obtain ⟨t0, t1⟩ := two_read w1 w.heap.size (.int .i64 0) (.int .i64 0) z0 z1
  refine bodyPost_ret (v := .tuple #[.agg #[.int .i64 0, .int .i64 0], .int .i64 1]) (by simp [results, Try.results22, go_sem, t0, t1]) rfl ?_
  exact ⟨rfl, (X.out.setCell (Nat.le_refl _) _).setCell (Nat.le_refl _) _⟩
set_option maxHeartbeats 8000000 in
theorem rg_lo (a : Option Addr) (n cap : Nat) (l : List (Int × Int)) (d : Int) (w : World) (HV : Hid (Pts w (.slice a n cap) l)) (g1 : decide (d < 50000) = true)
    (HR : Hid (∀ W, Below w.heap.size w W → Calls Try.prog 51 #[.slice a n cap] W fun e w' => e = .returned (.bool true) ∧ Below W.heap.size W w')) :
    Calls Try.prog 22 #[.slice a n cap, .int .i64 d] w fun e w' => e = .returned (.tuple #[.agg #[.int .i64 0, .int .i64 0], .int .i64 2]) ∧ Below w.heap.size w w' := by
  have T0 := Lib.hid (Two.new w (.int .i64 0) (.int .i64 0) 29)
  have X := Lib.hid (bel_alloc (w := w) (o := .cells #[.int .i64 0, .int .i64 0] 29) (Below.refl _ _))
  go_enter Try.func22, Try.ntmps22
  go_wp2_with fail
  refine (HR.out _ X.out).mono ?_
  rintro e w1 ⟨rfl, gg⟩
  replace T0 := Lib.hid (T0.out.below gg)
  replace X := Lib.hid (bel_trans X.out gg)
  clear gg
  obtain ⟨z0, z1, f0, f1, hlt⟩ := T0.out
  go_wp2
  obtain ⟨t0, t1⟩ := two_read w1 w.heap.size (.int .i64 0) (.int .i64 0) z0 z1
  refine bodyPost_ret (v := .tuple #[.agg #[.int .i64 0, .int .i64 0], .int .i64 2]) (by simp [results, Try.results22, go_sem, t0, t1]) rfl ?_
  exact ⟨rfl, (X.out.setCell (Nat.le_refl _) _).setCell (Nat.le_refl _) _⟩
set_option maxHeartbeats 8000000 in
theorem rg_hi (a : Option Addr) (n cap : Nat) (l : List (Int × Int)) (d : Int) (w : World) (HV : Hid (Pts w (.slice a n cap) l)) (g1 : decide (d < 50000) = false) (g2 : decide (120000 < d) = true)
    (HR : Hid (∀ W, Below w.heap.size w W → Calls Try.prog 51 #[.slice a n cap] W fun e w' => e = .returned (.bool true) ∧ Below W.heap.size W w')) :
    Calls Try.prog 22 #[.slice a n cap, .int .i64 d] w fun e w' => e = .returned (.tuple #[.agg #[.int .i64 0, .int .i64 0], .int .i64 2]) ∧ Below w.heap.size w w' := by
  have T0 := Lib.hid (Two.new w (.int .i64 0) (.int .i64 0) 29)
  have X := Lib.hid (bel_alloc (w := w) (o := .cells #[.int .i64 0, .int .i64 0] 29) (Below.refl _ _))
  go_enter Try.func22, Try.ntmps22
  go_wp2_with fail
  refine (HR.out _ X.out).mono ?_
  rintro e w1 ⟨rfl, gg⟩
  replace T0 := Lib.hid (T0.out.below gg)
  replace X := Lib.hid (bel_trans X.out gg)
  clear gg
  obtain ⟨z0, z1, f0, f1, hlt⟩ := T0.out
  go_wp2
  obtain ⟨t0, t1⟩ := two_read w1 w.heap.size (.int .i64 0) (.int .i64 0) z0 z1
  refine bodyPost_ret (v := .tuple #[.agg #[.int .i64 0, .int .i64 0], .int .i64 2]) (by simp [results, Try.results22, go_sem, t0, t1]) rfl ?_
  exact ⟨rfl, (X.out.setCell (Nat.le_refl _) _).setCell (Nat.le_refl _) _⟩
set_option maxHeartbeats 8000000 in
theorem rg_far (a : Option Addr) (n cap : Nat) (l : List (Int × Int)) (d : Int) (w : World) (HV : Hid (Pts w (.slice a n cap) l)) (n0 : 2 ≤ n) (g1 : decide (d < 50000) = false) (g2 : decide (120000 < d) = false) (g3 : decide (gR l 0 < d) = true)
    (HR : Hid (∀ W, Below w.heap.size w W → Calls Try.prog 51 #[.slice a n cap] W fun e w' => e = .returned (.bool true) ∧ Below W.heap.size W w')) :
    Calls Try.prog 22 #[.slice a n cap, .int .i64 d] w fun e w' => e = .returned (.tuple #[.agg #[.int .i64 0, .int .i64 0], .int .i64 7]) ∧ Below w.heap.size w w' := by
  have T0 := Lib.hid (Two.new w (.int .i64 0) (.int .i64 0) 29)
  have X := Lib.hid (bel_alloc (w := w) (o := .cells #[.int .i64 0, .int .i64 0] 29) (Below.refl _ _))
  have l0 : (0 : Int) < (n : Int) := by omega
  obtain ⟨b, off, rfl, hb, hc⟩ := HV.out.at (by omega)
  have c9 := (hc 0 (by omega)).2
  replace c9 := cell_bel c9 X.out
  clear hc
  generalize gR l 0 = r0 at *
  go_enter Try.func22, Try.ntmps22
  go_wp2_with fail
  refine (HR.out _ X.out).mono ?_
  rintro e w1 ⟨rfl, gg⟩
  replace T0 := Lib.hid (T0.out.below gg)
  replace X := Lib.hid (bel_trans X.out gg)
  replace c9 := cell_bel c9 gg
  clear gg
  obtain ⟨z0, z1, f0, f1, hlt⟩ := T0.out
  go_wp2
  obtain ⟨t0, t1⟩ := two_read w1 w.heap.size (.int .i64 0) (.int .i64 0) z0 z1
  refine bodyPost_ret (v := .tuple #[.agg #[.int .i64 0, .int .i64 0], .int .i64 7]) (by simp [results, Try.results22, go_sem, t0, t1]) rfl ?_
  exact ⟨rfl, (X.out.setCell (Nat.le_refl _) _).setCell (Nat.le_refl _) _⟩
set_option maxHeartbeats 8000000 in
theorem rg_ne (a : Option Addr) (n cap : Nat) (l : List (Int × Int)) (d H V : Int) (w : World) (HV : Hid (Pts w (.slice a n cap) l)) (n0 : 2 ≤ n) (g1 : decide (d < 50000) = false) (g2 : decide (120000 < d) = false) (g3 : decide (gR l 0 < d) = false) (g4 : (V != d) = true)
    (HR : Hid (∀ W, Below w.heap.size w W → Calls Try.prog 51 #[.slice a n cap] W fun e w' => e = .returned (.bool true) ∧ Below W.heap.size W w'))
    (HK : Hid (∀ W, Below w.heap.size w W → Calls Try.prog 55 #[.slice a n cap, .int .i64 d] W fun e w' => e = .returned (.int .i64 H) ∧ Below W.heap.size W w'))
    (HA : Hid (∀ W, Below w.heap.size w W → Calls Try.prog 52 #[.slice a n cap, .int .i64 H] W fun e w' => e = .returned (.int .i64 V) ∧ Below W.heap.size W w')) :
    Calls Try.prog 22 #[.slice a n cap, .int .i64 d] w fun e w' => e = .returned (.tuple #[.agg #[.int .i64 0, .int .i64 0], .int .i64 7]) ∧ Below w.heap.size w w' := by
  have T0 := Lib.hid (Two.new w (.int .i64 0) (.int .i64 0) 29)
  have X := Lib.hid (bel_alloc (w := w) (o := .cells #[.int .i64 0, .int .i64 0] 29) (Below.refl _ _))
  have l0 : (0 : Int) < (n : Int) := by omega
  obtain ⟨b, off, rfl, hb, hc⟩ := HV.out.at (by omega)
  have c9 := (hc 0 (by omega)).2
  replace c9 := cell_bel c9 X.out
  clear hc
  generalize gR l 0 = r0 at *
  go_enter Try.func22, Try.ntmps22
  go_wp2_with fail
  refine (HR.out _ X.out).mono ?_
  rintro e w1 ⟨rfl, gg⟩
  replace T0 := Lib.hid (T0.out.below gg)
  replace X := Lib.hid (bel_trans X.out gg)
  replace c9 := cell_bel c9 gg
  clear gg
  go_wp2_with fail
  refine (HK.out _ X.out).mono ?_
  rintro e w2 ⟨rfl, gg⟩
  replace T0 := Lib.hid (T0.out.below gg)
  replace X := Lib.hid (bel_trans X.out gg)
  replace c9 := cell_bel c9 gg
  clear gg
  go_wp2_with fail
  refine (HA.out _ X.out).mono ?_
  rintro e w3 ⟨rfl, gg⟩
  replace T0 := Lib.hid (T0.out.below gg)
  replace X := Lib.hid (bel_trans X.out gg)
  replace c9 := cell_bel c9 gg
  clear gg
  obtain ⟨z0, z1, f0, f1, hlt⟩ := T0.out
  go_wp2
  obtain ⟨t0, t1⟩ := two_read w3 w.heap.size (.int .i64 0) (.int .i64 0) z0 z1
  refine bodyPost_ret (v := .tuple #[.agg #[.int .i64 0, .int .i64 0], .int .i64 7]) (by simp [results, Try.results22, go_sem, t0, t1]) rfl ?_
  exact ⟨rfl, (X.out.setCell (Nat.le_refl _) _).setCell (Nat.le_refl _) _⟩
set_option maxHeartbeats 8000000 in
theorem rg_z (a : Option Addr) (n cap : Nat) (l : List (Int × Int)) (d H V : Int) (w : World) (HV : Hid (Pts w (.slice a n cap) l)) (n0 : 2 ≤ n) (g1 : decide (d < 50000) = false) (g2 : decide (120000 < d) = false) (g3 : decide (gR l 0 < d) = false) (g4 : (V != d) = false) (g5 : decide (d < gR l 0) = false)
    (HR : Hid (∀ W, Below w.heap.size w W → Calls Try.prog 51 #[.slice a n cap] W fun e w' => e = .returned (.bool true) ∧ Below W.heap.size W w'))
    (HK : Hid (∀ W, Below w.heap.size w W → Calls Try.prog 55 #[.slice a n cap, .int .i64 d] W fun e w' => e = .returned (.int .i64 H) ∧ Below W.heap.size W w'))
    (HA : Hid (∀ W, Below w.heap.size w W → Calls Try.prog 52 #[.slice a n cap, .int .i64 H] W fun e w' => e = .returned (.int .i64 V) ∧ Below W.heap.size W w')) :
    Calls Try.prog 22 #[.slice a n cap, .int .i64 d] w fun e w' => e = .returned (.tuple #[.agg #[.int .i64 0, .int .i64 H], .int .i64 0]) ∧ Below w.heap.size w w' := by
  have T0 := Lib.hid (Two.new w (.int .i64 0) (.int .i64 0) 29)
  have X := Lib.hid (bel_alloc (w := w) (o := .cells #[.int .i64 0, .int .i64 0] 29) (Below.refl _ _))
  have l0 : (0 : Int) < (n : Int) := by omega
  obtain ⟨b, off, rfl, hb, hc⟩ := HV.out.at (by omega)
  have c9 := (hc 0 (by omega)).2
  replace c9 := cell_bel c9 X.out
  clear hc
  generalize gR l 0 = r0 at *
  go_enter Try.func22, Try.ntmps22
  go_wp2_with fail
  refine (HR.out _ X.out).mono ?_
  rintro e w1 ⟨rfl, gg⟩
  replace T0 := Lib.hid (T0.out.below gg)
  replace X := Lib.hid (bel_trans X.out gg)
  replace c9 := cell_bel c9 gg
  clear gg
  go_wp2_with fail
  refine (HK.out _ X.out).mono ?_
  rintro e w2 ⟨rfl, gg⟩
  replace T0 := Lib.hid (T0.out.below gg)
  replace X := Lib.hid (bel_trans X.out gg)
  replace c9 := cell_bel c9 gg
  clear gg
  go_wp2_with fail
  refine (HA.out _ X.out).mono ?_
  rintro e w3 ⟨rfl, gg⟩
  replace T0 := Lib.hid (T0.out.below gg)
  replace X := Lib.hid (bel_trans X.out gg)
  replace c9 := cell_bel c9 gg
  clear gg
  obtain ⟨z0, z1, f0, f1, hlt⟩ := T0.out
  go_wp2
  obtain ⟨t0, t1⟩ := two_read w3 w.heap.size (.int .i64 0) (.int .i64 H) z0 z1
  refine bodyPost_ret (v := .tuple #[.agg #[.int .i64 0, .int .i64 H], .int .i64 0]) (by simp [results, Try.results22, go_sem, t0, t1]) rfl ?_
  exact ⟨rfl, (X.out.setCell (Nat.le_refl _) _).setCell (Nat.le_refl _) _⟩
set_option maxHeartbeats 8000000 in
theorem rg_r (a : Option Addr) (n cap : Nat) (l : List (Int × Int)) (d H V L M : Int) (w : World) (HV : Hid (Pts w (.slice a n cap) l)) (n0 : 2 ≤ n) (g1 : decide (d < 50000) = false) (g2 : decide (120000 < d) = false) (g3 : decide (gR l 0 < d) = false) (g4 : (V != d) = false) (g5 : decide (d < gR l 0) = true) (wd : IntKind.i64.wrap (d + 1) = d + 1) (wl : IntKind.i64.wrap (M + 1) = L)
    (HR : Hid (∀ W, Below w.heap.size w W → Calls Try.prog 51 #[.slice a n cap] W fun e w' => e = .returned (.bool true) ∧ Below W.heap.size W w'))
    (HK : Hid (∀ W, Below w.heap.size w W → Calls Try.prog 55 #[.slice a n cap, .int .i64 d] W fun e w' => e = .returned (.int .i64 H) ∧ Below W.heap.size W w'))
    (HA : Hid (∀ W, Below w.heap.size w W → Calls Try.prog 52 #[.slice a n cap, .int .i64 H] W fun e w' => e = .returned (.int .i64 V) ∧ Below W.heap.size W w'))
    (HL : Hid (∀ W, Below w.heap.size w W → Calls Try.prog 55 #[.slice a n cap, .int .i64 (d + 1)] W fun e w' => e = .returned (.int .i64 M) ∧ Below W.heap.size W w')) :
    Calls Try.prog 22 #[.slice a n cap, .int .i64 d] w fun e w' => e = .returned (.tuple #[.agg #[.int .i64 L, .int .i64 H], .int .i64 0]) ∧ Below w.heap.size w w' := by
  have T0 := Lib.hid (Two.new w (.int .i64 0) (.int .i64 0) 29)
  have X := Lib.hid (bel_alloc (w := w) (o := .cells #[.int .i64 0, .int .i64 0] 29) (Below.refl _ _))
  have l0 : (0 : Int) < (n : Int) := by omega
  obtain ⟨b, off, rfl, hb, hc⟩ := HV.out.at (by omega)
  have c9 := (hc 0 (by omega)).2
  replace c9 := cell_bel c9 X.out
  clear hc
  generalize gR l 0 = r0 at *
  go_enter Try.func22, Try.ntmps22
  go_wp2_with fail
  refine (HR.out _ X.out).mono ?_
  rintro e w1 ⟨rfl, gg⟩
  replace T0 := Lib.hid (T0.out.below gg)
  replace X := Lib.hid (bel_trans X.out gg)
  replace c9 := cell_bel c9 gg
  clear gg
  go_wp2_with fail
  refine (HK.out _ X.out).mono ?_
  rintro e w2 ⟨rfl, gg⟩
  replace T0 := Lib.hid (T0.out.below gg)
  replace X := Lib.hid (bel_trans X.out gg)
  replace c9 := cell_bel c9 gg
  clear gg
  go_wp2_with fail
  refine (HA.out _ X.out).mono ?_
  rintro e w3 ⟨rfl, gg⟩
  replace T0 := Lib.hid (T0.out.below gg)
  replace X := Lib.hid (bel_trans X.out gg)
  replace c9 := cell_bel c9 gg
  clear gg
  go_wp2_with fail
  refine (HL.out _ X.out).mono ?_
  rintro e w4 ⟨rfl, gg⟩
  replace T0 := Lib.hid (T0.out.below gg)
  replace X := Lib.hid (bel_trans X.out gg)
  replace c9 := cell_bel c9 gg
  clear gg
  obtain ⟨z0, z1, f0, f1, hlt⟩ := T0.out
  go_wp2
  obtain ⟨t0, t1⟩ := two_read w4 w.heap.size (.int .i64 L) (.int .i64 H) z0 z1
  refine bodyPost_ret (v := .tuple #[.agg #[.int .i64 L, .int .i64 H], .int .i64 0]) (by simp [results, Try.results22, go_sem, t0, t1]) rfl ?_
  exact ⟨rfl, (X.out.setCell (Nat.le_refl _) _).setCell (Nat.le_refl _) _⟩
theorem rfRg_any (v : Value) (l : List (Int × Int)) (d : Int) (w : World) (hv : Pts w v l) :
    Calls Try.prog 22 #[v, .int .i64 d] w fun e w' => e = .returned (.tuple #[.agg #[.int .i64 (rgeL l d), .int .i64 (rgeH l d)], .int .i64 (rgeE l d)]) ∧ Below w.heap.size w w' := by
  have HR := fun W (hW : Below w.heap.size w W) => rnRt_any v l W (hv.below hW)
  have hv2 := Lib.hid hv
  obtain ⟨a, cap, rfl, _, _⟩ := hv.shape
  have z : ∀ e, e ≠ 0 → rgeE l d = e → rgeL l d = 0 ∧ rgeH l d = 0 := fun e h1 h2 => by
    unfold rgeL rgeH
    rw [if_neg (by omega), if_neg (by omega)]
    exact ⟨rfl, rfl⟩
  by_cases he : dnE l = 0
  · have hD := dnE_zero.1 he
    have n0 := hD.n0
    rw [show (dnE l == 0) = true by simpa using he] at HR
    by_cases g1 : d < 50000
    · have e2 : rgeE l d = 2 := by unfold rgeE; rw [if_neg (by omega), if_neg (by omega)]
      obtain ⟨y1, y2⟩ := z 2 (by omega) e2
      rw [y1, y2, e2]
      exact rg_lo a l.length cap l d w hv2 (decide_eq_true g1) (Lib.hid HR)
    · by_cases g2 : 120000 < d
      · have e2 : rgeE l d = 2 := by unfold rgeE; rw [if_neg (by omega), if_neg (by omega)]
        obtain ⟨y1, y2⟩ := z 2 (by omega) e2
        rw [y1, y2, e2]
        exact rg_hi a l.length cap l d w hv2 (decide_eq_false g1) (decide_eq_true g2) (Lib.hid HR)
      · have bd : 50000 ≤ d ∧ d ≤ 120000 := by omega
        by_cases g3 : gR l 0 < d
        · have b0 := bl_zero hD (y := d) (by rw [hD.a0]; exact g3)
          have e7 : rgeE l d = 7 := by unfold rgeE; rw [if_neg (by omega), if_pos bd, if_pos (by omega)]
          obtain ⟨y1, y2⟩ := z 7 (by omega) e7
          rw [y1, y2, e7]
          exact rg_far a l.length cap l d w hv2 n0 (decide_eq_false g1) (decide_eq_false g2) (decide_eq_true g3) (Lib.hid HR)
        · have ga : d ≤ atD l 0 := by rw [hD.a0]; omega
          have HK := Lib.hid (fun W (hW : Below w.heap.size w W) => rfRe_any _ l d W (hv2.out.below hW) hD ga)
          obtain ⟨b1, b2⟩ := bl_pos hD ga
          have HA := Lib.hid (fun W (hW : Below w.heap.size w W) => rfAt_any _ l ((blN l d : Int) - 1) W (hv2.out.below hW) hD (by omega) (by omega))
          obtain ⟨p0, p1, p2⟩ := blN_spec hD d
          obtain ⟨q0, q1, q2⟩ := blN_spec hD (d + 1)
          have p3 := p1 ((blN l d : Int) - 1) (by omega) (by omega)
          by_cases e0 : rgeE l d = 0
          · have le := (rgeE_zero.1 e0).2.2
            have q3 := q2 ((blN l d : Int) - 1) (by omega) (by omega)
            have g4 : (atD l ((blN l d : Int) - 1) != d) = false := by
              rw [show atD l ((blN l d : Int) - 1) = d by omega]; simp
            rw [show rgeL l d = (blN l (d + 1) : Int) by unfold rgeL; rw [if_pos e0], show rgeH l d = (blN l d : Int) - 1 by unfold rgeH; rw [if_pos e0], e0]
            by_cases g5 : d < gR l 0
            · have gb : d + 1 ≤ atD l 0 := by rw [hD.a0]; omega
              exact rg_r a l.length cap l d _ _ _ _ w hv2 n0 (decide_eq_false g1) (decide_eq_false g2) (decide_eq_false g3) g4 (decide_eq_true g5) (wrap_in _ ⟨by omega, by omega⟩) (by rw [wrap_in _ ⟨by omega, by omega⟩]; omega) (Lib.hid HR) HK HA (Lib.hid fun W (hW : Below w.heap.size w W) => rfRe_any _ l (d + 1) W (hv2.out.below hW) hD gb)
            · have b0 := bl_zero hD (y := d + 1) (by rw [hD.a0]; omega)
              rw [b0]
              exact rg_z a l.length cap l d _ _ w hv2 n0 (decide_eq_false g1) (decide_eq_false g2) (decide_eq_false g3) g4 (decide_eq_false g5) (Lib.hid HR) HK HA
          · have lt : (blN l d : Int) - 1 < (blN l (d + 1) : Int) := by
              rcases Int.lt_or_le ((blN l d : Int) - 1) (blN l (d + 1) : Int) with q | q
              · exact q
              · exact absurd (rgeE_zero.2 ⟨hD, bd, q⟩) e0
            have q3 := q1 ((blN l d : Int) - 1) (by omega) lt
            have e7 : rgeE l d = 7 := by unfold rgeE; rw [if_neg (by omega), if_pos bd, if_pos lt]
            obtain ⟨y1, y2⟩ := z 7 (by omega) e7
            rw [y1, y2, e7]
            exact rg_ne a l.length cap l d _ _ w hv2 n0 (decide_eq_false g1) (decide_eq_false g2) (decide_eq_false g3) (bne_iff_ne.2 (by omega)) (Lib.hid HR) HK HA
  · rw [show (dnE l == 0) = false by simpa using he] at HR
    have e2 : rgeE l d = 1 := by unfold rgeE; rw [if_pos he]
    obtain ⟨y1, y2⟩ := z 1 (by omega) e2
    rw [y1, y2, e2]
    exact rg_no a l.length cap l d w hv2 (Lib.hid HR)
end Go.Proofs.Ytadkhhkoankhnaa

namespace Go.Proofs.Ytadkhhkoankhnaa.interpolateReads
open Go.ChangeShapes Go.WideShapes Go.ChangeAt Go.RowKit
open Go.ChangeMaps (open_string shut_string)
set_option linter.unusedVariables false

theorem run_same_bnd (a b : Int) (w : World) :
    (Op.equalIn 10000 29 (.agg #[.int .i64 a, .int .i64 b]) (.agg #[.int .i64 a, .int .i64 b])).run Try.prog w = .ok true w := by
  rw [show (10000 : Nat) = 9999 + 1 from rfl, run_equalIn_agg w 9999 29 _ _ (by kernel_rfl) (by kernel_rfl)]
  have hf : (Try.prog.fieldsOf 29).toList.map (fun f => (f.name, f.type, f.offset)) = [("Low", 3, 0), ("High", 3, 1)] := by kernel_rfl
  generalize (Try.prog.fieldsOf 29).toList = fs at *
  obtain ⟨f, g, rfl⟩ : ∃ f g, fs = [f, g] := by
    have hl := congrArg List.length hf
    rw [List.length_map] at hl
    rcases fs with _ | ⟨f, _ | ⟨g, _ | ⟨h, fs⟩⟩⟩ <;> simp at hl
    exact ⟨f, g, rfl⟩
  simp only [List.map_cons, List.map_nil, List.cons.injEq, Prod.mk.injEq, and_true] at hf
  obtain ⟨⟨f1, f2, f3⟩, g1, g2, g3⟩ := hf
  have eq : ∀ (u v : Int) (W : World), (Op.equalIn 9999 3 (.int .i64 u) (.int .i64 v)).run Try.prog W = .ok (u == v) W := fun u v W => run_equalIn_int W 9998 3 .i64 .i64 u v Try.underlying3
  simp [Op.eqFields, f1, f2, f3, g1, g2, g3, go_sem, eq]
theorem run_eql_bnd (a b : Int) (w : World) :
    (binOp .eql 29 (.agg #[.int .i64 a, .int .i64 b]) (.agg #[.int .i64 a, .int .i64 b])).run Try.prog w = .ok (.bool true) w := by
  rw [run_eql_struct, run_same_bnd]; rfl
set_option maxHeartbeats 8000000 in
set_option maxRecDepth 100000 in
theorem long (a : Option Addr) (n cap : Nat) (st d : Int) (l : List (Int × Int)) (w : World) (NV : Hid (Pts w (.slice a n cap) l)) (hf : fwB l.length = false) :
    Calls Try.prog 3 #[.slice a n cap, .int .i64 st, .int .i64 d] w fun e w' => e = .returned (.bool true) ∧ Below w.heap.size w w' := by
  have HA := Lib.hid (fun W => awakeI_any W)
  have FW := Lib.hid (fun v W h => few_any v l W h)
  rw [hf] at FW
  have HB := Lib.hid (Below.refl w.heap.size w)
  go_enter Try.func3, Try.ntmps3
  go_wp2_with fail
  refine (HA.out _).mono ?_
  rintro e w3 ⟨rfl, h1⟩
  replace NV := Lib.hid (NV.out.below h1)
  replace HB := Lib.hid (bel_trans HB.out h1); clear h1
  go_wp2_with fail
  refine (FW.out _ _ NV.out).mono ?_
  rintro e w90 ⟨rfl, hw⟩
  subst hw
  go_wp2
  go_returns
  exact ⟨rfl, HB.out⟩
set_option maxHeartbeats 16000000 in
set_option maxRecDepth 100000 in
theorem core (a : Option Addr) (n cap : Nat) (st d A B LO HI E1 E2 E3 : Int) (l : List (Int × Int)) (w : World) (NV : Hid (Pts w (.slice a n cap) l)) (hf : fwB l.length = true)
    (C1 : Hid (∀ W, Pts W (.slice a n cap) l → Calls Try.prog 17 #[.slice a n cap, .int .i64 st] W fun e w' => e = .returned (.tuple #[.int .i64 A, .int .i64 E1]) ∧ Below W.heap.size W w'))
    (C2 : Hid (∀ W, Pts W (.slice a n cap) l → Calls Try.prog 18 #[.slice a n cap, .int .i64 st] W fun e w' => e = .returned (.tuple #[.int .i64 A, .int .i64 E1]) ∧ Below W.heap.size W w'))
    (C3 : Hid (∀ W, Pts W (.slice a n cap) l → Calls Try.prog 19 #[.slice a n cap, .int .i64 d] W fun e w' => e = .returned (.tuple #[.int .i64 B, .int .i64 E2]) ∧ Below W.heap.size W w'))
    (C4 : Hid (∀ W, Pts W (.slice a n cap) l → Calls Try.prog 20 #[.slice a n cap, .int .i64 d] W fun e w' => e = .returned (.tuple #[.int .i64 B, .int .i64 E2]) ∧ Below W.heap.size W w'))
    (C5 : Hid (∀ W, Pts W (.slice a n cap) l → Calls Try.prog 21 #[.slice a n cap, .int .i64 d] W fun e w' => e = .returned (.tuple #[.agg #[.int .i64 LO, .int .i64 HI], .int .i64 E3]) ∧ Below W.heap.size W w'))
    (C6 : Hid (∀ W, Pts W (.slice a n cap) l → Calls Try.prog 22 #[.slice a n cap, .int .i64 d] W fun e w' => e = .returned (.tuple #[.agg #[.int .i64 LO, .int .i64 HI], .int .i64 E3]) ∧ Below W.heap.size W w')) :
    Calls Try.prog 3 #[.slice a n cap, .int .i64 st, .int .i64 d] w fun e w' => e = .returned (.bool true) ∧ Below w.heap.size w w' := by
  have q1 : ∀ W, (binOp .eql 29 (.agg #[.int .i64 LO, .int .i64 HI]) (.agg #[.int .i64 LO, .int .i64 HI])).run Try.prog W = .ok (.bool true) W := fun W => run_eql_bnd LO HI W
  have HA := Lib.hid (fun W => awakeI_any W)
  have FW := Lib.hid (fun v W h => few_any v l W h)
  rw [hf] at FW
  have HB := Lib.hid (Below.refl w.heap.size w)
  go_enter Try.func3, Try.ntmps3
  go_wp2_with fail
  refine (HA.out _).mono ?_
  rintro e w6 ⟨rfl, h1⟩
  replace NV := Lib.hid (NV.out.below h1)
  replace HB := Lib.hid (bel_trans HB.out h1); clear h1
  go_wp2_with fail
  refine (FW.out _ _ NV.out).mono ?_
  rintro e w90 ⟨rfl, hw⟩
  subst hw
  go_wp2_with fail
  refine (C1.out _ NV.out).mono ?_
  rintro e w7 ⟨rfl, h1⟩
  replace NV := Lib.hid (NV.out.below h1)
  replace HB := Lib.hid (bel_trans HB.out h1); clear h1
  go_wp2_with fail
  refine (C2.out _ NV.out).mono ?_
  rintro e w8 ⟨rfl, h1⟩
  replace NV := Lib.hid (NV.out.below h1)
  replace HB := Lib.hid (bel_trans HB.out h1); clear h1
  go_wp2_with fail
  refine (C3.out _ NV.out).mono ?_
  rintro e w9 ⟨rfl, h1⟩
  replace NV := Lib.hid (NV.out.below h1)
  replace HB := Lib.hid (bel_trans HB.out h1); clear h1
  go_wp2_with fail
  refine (C4.out _ NV.out).mono ?_
  rintro e w10 ⟨rfl, h1⟩
  replace NV := Lib.hid (NV.out.below h1)
  replace HB := Lib.hid (bel_trans HB.out h1); clear h1
  go_wp2_with fail
  refine (C5.out _ NV.out).mono ?_
  rintro e w12 ⟨rfl, h1⟩
  replace NV := Lib.hid ((NV.out.below h1).alloc (.cells #[.int .i64 LO, .int .i64 HI] 29))
  replace HB := Lib.hid ((bel_trans HB.out h1).alloc (bel_trans HB.out h1).size (.cells #[.int .i64 LO, .int .i64 HI] 29)); clear h1
  have T1 := Lib.hid (Two.new w12 (.int .i64 LO) (.int .i64 HI) 29)
  go_wp2_with fail
  refine (C6.out _ NV.out).mono ?_
  rintro e w13 ⟨rfl, h1⟩
  replace NV := Lib.hid ((NV.out.below h1).alloc (.cells #[.int .i64 LO, .int .i64 HI] 29))
  replace T1 := Lib.hid ((T1.out.below h1).alloc (.cells #[.int .i64 LO, .int .i64 HI] 29))
  replace HB := Lib.hid ((bel_trans HB.out h1).alloc (bel_trans HB.out h1).size (.cells #[.int .i64 LO, .int .i64 HI] 29)); clear h1
  have T2 := Lib.hid (Two.new w13 (.int .i64 LO) (.int .i64 HI) 29)
  obtain ⟨T10, T11, T12, T13, T14⟩ := T1.out
  obtain ⟨T20, T21, T22, T23, T24⟩ := T2.out
  go_wp2
  go_returns
  exact ⟨rfl, HB.out⟩
theorem walk (v : Value) (l : List (Int × Int)) (st d : Int) (w : World) (hv : Pts w v l) (_ : -9223372036854775808 ≤ st ∧ st ≤ 9223372036854775807) (_ : -9223372036854775808 ≤ d ∧ d ≤ 9223372036854775807) :
    Calls Try.prog 3 #[v, .int .i64 st, .int .i64 d] w fun e w' => e = .returned (.bool true) ∧ Below w.heap.size w w' := by
  have hv2 := Lib.hid hv
  obtain ⟨a, cap, rfl, _, _⟩ := hv.shape
  cases h : fwB l.length with
  | false => exact long a l.length cap st d l w hv2 h
  | true => exact core a l.length cap st d _ _ _ _ _ _ _ l w hv2 h (Lib.hid fun W h => itDen_any _ l st W h) (Lib.hid fun W h => rfDen_any _ l st W h) (Lib.hid fun W h => itSt_any _ l d W h) (Lib.hid fun W h => rfSt_any _ l d W h) (Lib.hid fun W h => itRg_any _ l d W h) (Lib.hid fun W h => rfRg_any _ l d W h)

set_option maxRecDepth 100000 in
theorem lifted (os : Os) (started : os.Started) (H : Type) (enc : TypeId × Value → H) :
    ReturnsInHanded {} Try.checked os 3 .any (Rows.interpolateReadsSpec.pre6 enc Try.prog Try.f3 Rows.interpolateReadsRow.domain false) (Rows.interpolateReadsSpec.post enc Try.prog Try.f3 false true false false) := by
  refine returnsInHanded_of_change (C := Try.checked) own started (by kernel_rfl) Try.func3
    (ChangeSpec.witness6 (enc := enc) (C := Try.checked) false ⟨#[], #[.slice none 0 0, .int .i64 0, .int .i64 0], []⟩ 8 (by kernel_rfl) (by kernel_rfl) (by kernel_rfl) (by kernel_rfl)) ?_
  intro W base args ds gs before hval0 hW hcnd _
  have hval : ∀ (j : Nat) t v, Try.f3.params[j]? = some t → args[j]? = some v → Value.okWide Try.prog W .any base t v := hval0
  clear hval0
  have hW' := hW
  obtain ⟨p, q, hA0, hV, rfl, hfz, hnd⟩ := hW
  have hA : DataW.TrodAll enc Try.prog W 0 (fun _ => true) true Try.f3.params.toList args.toList ds p := hA0
  rw [Try.params3] at hA hval
  obtain ⟨v0, vs0, d0, ds0, p0, q0, hargs, rfl, rfl, h0, r0⟩ := trodAll_cons hA
  obtain ⟨v1, vs1, d1, ds1, p1, q1, rfl, rfl, rfl, h1, r1⟩ := trodAll_cons r0
  obtain ⟨v2, vs2, d2, ds2, p2, q2, rfl, rfl, rfl, h2, r2⟩ := trodAll_cons r1
  obtain ⟨rfl, rfl, rfl⟩ := trodAll_nil r2
  obtain rfl : args = #[v0, v1, v2] := by cases args; simp_all
  obtain ⟨rfl, rfl⟩ := trodVars_none hV
  have k0 := h0
  have lt0 : ∀ x ∈ p0, x.block < W.heap.size := by obtain ⟨m, hm⟩ := k0; exact DataW.trod_lt m _ _ _ hm
  have k1 := h1
  have lt1 : ∀ x ∈ p1, x.block < W.heap.size := by obtain ⟨m, hm⟩ := k1; exact DataW.trod_lt m _ _ _ hm
  have k2 := h2
  have lt2 : ∀ x ∈ p2, x.block < W.heap.size := by obtain ⟨m, hm⟩ := k2; exact DataW.trod_lt m _ _ _ hm
  obtain ⟨z0, w0⟩ := open_pts (hval 0 22 v0 rfl rfl) h0
  obtain ⟨a1, rfl, rfl, rfl, w1⟩ := open_int Try.underlying3 (hval 1 3 v1 rfl rfl) h1
  obtain ⟨a2, rfl, rfl, rfl, w2⟩ := open_int Try.underlying3 (hval 2 3 v2 rfl rfl) h2
  clear hA0
  refine (walk v0 z0 a1 a2 W w0 (wf_bd w1) (wf_bd w2)).mono fun e W' ⟨he, bel⟩ => ?_
  subst he
  exact ⟨_, rfl, _, _, _, [], _, [], hW', trodAll_mk1 (shut_bool Try.underlying4 _), (trodAll_cons_mk (Below.trod laidOut (by kernel_rfl) (of_decide_eq_true (by kernel_rfl)) k0 bel lt0) (trodAll_cons_mk (Below.trod laidOut (by kernel_rfl) (of_decide_eq_true (by kernel_rfl)) k1 bel lt1) (trodAll_cons_mk (Below.trod laidOut (by kernel_rfl) (of_decide_eq_true (by kernel_rfl)) k2 bel lt2) trodAll_mk0))), rfl, bel.frame _, fun h => by cases h⟩

theorem over : Rows.interpolateReadsRow.holds Try.pinned (OpenSpec.ofChange Rows.interpolateReadsSpec) :=
  OpenClaim.holds_of_wide 3 Try.f3 rfl rfl rfl rfl rfl rfl rfl ⟨rfl, rfl, rfl, rfl, rfl⟩ rfl rfl rfl rfl rfl (by kernel_rfl) Try.func3 (by kernel_rfl)
    (of_decide_eq_true (by kernel_rfl)) (by unfold Func.isWrapper; first | (rw [if_pos (by decide +kernel)]; kernel_rfl) | (rw [if_neg (by decide +kernel)]; exact ⟨rfl, rfl⟩))
    (fun os started H enc _ => lifted os started H enc)

theorem proved : Rows.InterpolateReadsSaid := over
#print axioms proved
end Go.Proofs.Ytadkhhkoankhnaa.interpolateReads
