/-
  The statement MixContracts of spile/spilelaw21 holds: for every input the call returns true, and each argument reads afterwards as it read before.
-/
import Derived.Test.YtfkcgdnpfngdkaaM2
import Derived.StillTailTactics
import Derived.Deep.RegionWith
import Derived.Below
import Derived.Carry

set_option linter.unusedVariables false
set_option linter.unusedSimpArgs false

namespace Go.Proofs.Ytfkcgdnpfngdkaa
open Go.RowKit

/-- the last of the first rows whose strength is not greater -/
def atN (l : List (Int × Int)) (s : Int) : Nat → Nat
  | 0 => 0
  | k + 1 => if gX l k ≤ s then k else atN l s k
theorem atN_is {l : List (Int × Int)} (h : DR l) {s : Int} (hs : 0 ≤ s) : ∀ k, k ≤ l.length → 1 ≤ k → (atN l s k : Int) = if k ≤ rcN l (s + 1) then (k : Int) - 1 else (rcN l (s + 1) : Int) - 1
  | 0, _, h1 => by omega
  | k + 1, hk, _ => by
    obtain ⟨r1, r2, r3⟩ := rcN_spec h (s + 1)
    have rp := rcN_pos h hs
    unfold atN
    by_cases e : gX l k ≤ s
    · rw [if_pos e]
      have : k + 1 ≤ rcN l (s + 1) := by
        rcases Nat.lt_or_ge k (rcN l (s + 1)) with g | g
        · exact g
        · have := r3 k g (by omega); omega
      rw [if_pos this]; omega
    · rw [if_neg e]
      have h2 : ¬ k + 1 ≤ rcN l (s + 1) := fun g => by have := r2 k (by omega); omega
      rw [if_neg h2, atN_is h hs k (by omega) (by omega)]
      by_cases g : k ≤ rcN l (s + 1)
      · rw [if_pos g]; omega
      · rw [if_neg g]
theorem atN_rc {l : List (Int × Int)} (h : DR l) {s : Int} (hs : 0 ≤ s) : (atN l s l.length : Int) = (rcN l (s + 1) : Int) - 1 := by
  have n0 := h.n0
  have r1 := (rcN_spec h (s + 1)).1
  rw [atN_is h hs l.length (Nat.le_refl _) (by omega)]
  split <;> omega
set_option maxHeartbeats 8000000 in
theorem rnAt_some (b off n cap : Nat) (l : List (Int × Int)) (s : Int) (w : World) (n1 : n ≤ 1000) (hb : b < w.heap.size) (hc : Hid (∀ j, j < n → w.cell? ⟨b, off + j * 2, none⟩ = some (.int .i64 (gX l j)))) :
    Calls Try.prog 68 #[.slice (some ⟨b, off, none⟩) n cap, .int .i64 s] w fun e w' => e = .returned (.int .i64 (atN l s n : Nat)) ∧ Below w.heap.size w w' := by
  go_enter Try.func68, Try.ntmps68
  go_wp2_with fail
  go_loopw [5, 6] (fun aa ii wr => ∃ k : Nat, k ≤ n ∧ ii = .int .i64 (k : Int) ∧ aa = .int .i64 (atN l s k : Nat) ∧ Hid (Below w.heap.size w wr)) (fun _ ii _ => n - (intOf ii).toNat)
  case atStart => exact ⟨0, Nat.zero_le _, rfl, rfl, Below.refl _ _⟩
  case round =>
    obtain ⟨k, hk, rfl, rfl, hB⟩ := hrel
    by_cases hlt : k < n
    · have c0 := cell_bel (hc.out k hlt) hB.out
      have l0 : (k : Int) < (n : Int) := by omega
      by_cases e : gX l k ≤ s
      · have hN : Hid (atN l s (k + 1) = k) := Lib.hid (by unfold atN; rw [if_pos e])
        have d0 : decide (gX l k ≤ s) = true := decide_eq_true e
        clear e
        generalize gX l k = y at *
        go_wp2
        go_roundw
        case rel => exact ⟨k + 1, by omega, by go_num, by rw [hN.out], hB⟩
        case measure => simp [intOf]; omega
      · have hN : Hid (atN l s (k + 1) = atN l s k) := Lib.hid (by show (if gX l k ≤ s then k else atN l s k) = _; rw [if_neg e])
        have d0 : decide (gX l k ≤ s) = false := decide_eq_false e
        clear e
        generalize gX l k = y at *
        go_wp2
        go_roundw
        case rel => exact ⟨k + 1, by omega, by go_num, by rw [hN.out], hB⟩
        case measure => simp [intOf]; omega
    · obtain rfl : k = n := by omega
      go_wp2
      go_returns
      exact ⟨rfl, hB.out⟩
theorem rnAt_any (v : Value) (l : List (Int × Int)) (s : Int) (w : World) (hv : Pts w v l) (h : DR l) (hs : 0 ≤ s) :
    Calls Try.prog 68 #[v, .int .i64 s] w fun e w' => e = .returned (.int .i64 ((rcN l (s + 1) : Int) - 1)) ∧ Below w.heap.size w w' := by
  have n0 := h.n0
  have n1 := h.n1
  obtain ⟨a, cap, rfl, hl, hh⟩ := hv
  rcases hh with hh | ⟨b, off, rfl, hb, hc⟩
  · omega
  have := rnAt_some b off l.length cap l s w (by omega) hb (Lib.hid fun j hj => (hc j hj).1)
  rwa [atN_rc h hs] at this
end Go.Proofs.Ytfkcgdnpfngdkaa

namespace Go.Proofs.Ytfkcgdnpfngdkaa
open Go.RowKit

set_option maxHeartbeats 4000000 in
theorem rfLn_any (x0 r0 x1 r1 s : Int) (w : World) (hx0 : 0 ≤ x0) (hx : x0 < x1) (hx1 : x1 ≤ 10000) (hs0 : x0 ≤ s) (hs1 : s ≤ x1) (hr1 : 0 ≤ r1) (hr : r1 ≤ r0) (hr0 : r0 ≤ 120000) :
    Calls Try.prog 69 #[.agg #[.int .i64 x0, .int .i64 r0], .agg #[.int .i64 x1, .int .i64 r1], .int .i64 s] w fun e w' => e = .returned (.int .i64 (btD x0 r0 x1 r1 s)) ∧ Below w.heap.size w w' := by
  obtain ⟨q0, q1⟩ := half_bd (D := r0 - r1) (E := x1 - s) (L := x1 - x0) (by omega) (by omega) (by omega) (by omega)
  have P : 0 ≤ (r0 - r1) * (x1 - s) := Int.mul_nonneg (by omega) (by omega)
  have P1 : (r0 - r1) * (x1 - s) ≤ 120000 * 10000 := Int.mul_le_mul (by omega) (by omega) (by omega) (by omega)
  have P2 : 0 ≤ r1 * (x1 - x0) := Int.mul_nonneg (by omega) (by omega)
  have P3 : r1 * (x1 - x0) ≤ 120000 * 10000 := Int.mul_le_mul (by omega) (by omega) (by omega) (by omega)
  have P4 : 0 ≤ r0 * (x1 - x0) := Int.mul_nonneg (by omega) (by omega)
  have P5 : r0 * (x1 - x0) ≤ 120000 * 10000 := Int.mul_le_mul (by omega) (by omega) (by omega) (by omega)
  have id : r0 * (x1 - x0) + (r1 - r0) * (s - x0) = r1 * (x1 - x0) + (r0 - r1) * (x1 - s) := by grind
  have ln := btD_line (r0 := r0) (r1 := r1) (s := s) hx
  have bb := btD_bd hx hs0 hs1 hr
  generalize btD x0 r0 x1 r1 s = V at *
  have w1 : IntKind.i64.wrap (x1 - x0) = x1 - x0 := wrap_in _ ⟨by omega, by omega⟩
  have w2 : IntKind.i64.wrap (r1 - r0) = r1 - r0 := wrap_in _ ⟨by omega, by omega⟩
  have w3 : IntKind.i64.wrap (s - x0) = s - x0 := wrap_in _ ⟨by omega, by omega⟩
  have w4 : IntKind.i64.wrap (r0 * (x1 - x0)) = r0 * (x1 - x0) := wrap_in _ ⟨by omega, by omega⟩
  have w5 : IntKind.i64.wrap ((r1 - r0) * (s - x0)) = (r1 - r0) * (s - x0) := wrap_in _ ⟨by omega, by omega⟩
  have w6 : IntKind.i64.wrap (r0 * (x1 - x0) + (r1 - r0) * (s - x0)) = r0 * (x1 - x0) + (r1 - r0) * (s - x0) := wrap_in _ ⟨by omega, by omega⟩
  have w7 : IntKind.i64.wrap (2 * (r0 * (x1 - x0) + (r1 - r0) * (s - x0))) = 2 * (r0 * (x1 - x0) + (r1 - r0) * (s - x0)) := wrap_in _ ⟨by omega, by omega⟩
  have w8 : IntKind.i64.wrap (2 * (r0 * (x1 - x0) + (r1 - r0) * (s - x0)) + (x1 - x0)) = 2 * (r0 * (x1 - x0) + (r1 - r0) * (s - x0)) + (x1 - x0) := wrap_in _ ⟨by omega, by omega⟩
  have w9 : IntKind.i64.wrap (2 * (x1 - x0)) = 2 * (x1 - x0) := wrap_in _ ⟨by omega, by omega⟩
  have nz : ¬ 2 * (x1 - x0) = 0 := by omega
  have nz2 : (2 * (x1 - x0) == 0) = false := by rw [beq_eq_false_iff_ne]; exact nz
  have nz3 : (x1 - x0 == 0) = false := by rw [beq_eq_false_iff_ne]; omega
  have nz4 : ¬ x1 - x0 = 0 := by omega
  have w10 : IntKind.i64.wrap ((2 * (r0 * (x1 - x0) + (r1 - r0) * (s - x0)) + (x1 - x0)).tdiv (2 * (x1 - x0))) = V := by
    rw [Int.tdiv_eq_ediv_of_nonneg (by omega), ln]; exact wrap_in _ ⟨by omega, by omega⟩
  have X := Lib.hid (bel_alloc (w := w) (o := .cells #[.int .i64 x0, .int .i64 r0] 53) (bel_alloc (o := .cells #[.int .i64 x1, .int .i64 r1] 53) (Below.refl _ _)))
  replace id := Lib.hid id
  have ln := Lib.hid ln
  go_enter Try.func69, Try.ntmps69
  go_wp2
  go_returns
  refine ⟨?_, X.out⟩
  first
    | rfl
    | (show Ending.returned (.int .i64 ((2 * (r0 * (x1 - x0) + (r1 - r0) * (s - x0)) + (x1 - x0)) / (2 * (x1 - x0)))) = _; rw [ln.out])
theorem rc_place {l : List (Int × Int)} (h : DR l) {s : Int} (h0 : 0 ≤ s) (h1 : s ≤ 10000) :
    ∃ k : Nat, (rcN l (s + 1) : Int) - 1 = k ∧ k < l.length ∧ gX l k ≤ s ∧ (gX l k ≠ s → k + 1 < l.length ∧ s ≤ gX l (k + 1)) := by
  obtain ⟨a, b, c⟩ := rcN_spec h (s + 1)
  have p := rcN_pos h h0
  refine ⟨rcN l (s + 1) - 1, by omega, by omega, ?_, fun ne => ?_⟩
  · have := b (rcN l (s + 1) - 1) (by omega); omega
  · have le := b (rcN l (s + 1) - 1) (by omega)
    have lt : rcN l (s + 1) < l.length := by
      rcases Nat.lt_or_ge (rcN l (s + 1)) l.length with q | q
      · exact q
      · have t := h.t
        rw [show rcN l (s + 1) - 1 = l.length - 1 by omega] at le ne
        omega
    have := c (rcN l (s + 1)) (Nat.le_refl _) lt
    rw [show rcN l (s + 1) - 1 + 1 = rcN l (s + 1) by omega]
    exact ⟨lt, by omega⟩
set_option maxHeartbeats 8000000 in
set_option maxRecDepth 100000 in
theorem rfAt_any (v : Value) (l : List (Int × Int)) (x : Int) (w : World) (hv : Pts w v l) (h : DR l) (h0 : 0 ≤ x) (h1 : x ≤ 10000) :
    Calls Try.prog 53 #[v, .int .i64 x] w fun e w' => e = .returned (.int .i64 (atD l x)) ∧ Below w.heap.size w w' := by
  have n0 := h.n0
  have n1 := h.n1
  have HI := Lib.hid (rnAt_any v l x w hv h h0)
  obtain ⟨k, ek, kl, k1, k2⟩ := rc_place h h0 h1
  rw [ek] at HI
  obtain ⟨a, cap, rfl, hl, hh⟩ := hv
  rcases hh with hh | ⟨b, off, rfl, hb, hc⟩
  · omega
  have HC0 : Hid (∀ W, Below w.heap.size w W → W.cell? ⟨b, off + k * 2, none⟩ = some (.int .i64 (gX l k)) ∧ W.cell? ⟨b, off + k * 2 + 1, none⟩ = some (.int .i64 (gR l k))) := Lib.hid fun W hW => ⟨cell_bel (hc k kl).1 hW, cell_bel (hc k kl).2 hW⟩
  have l0 : (k : Int) < (l.length : Int) := by omega
  by_cases ne : gX l k = x
  · have ed : atD l x = gR l k := by rw [← ne]; exact atD_row h kl
    have e1 : (gX l k == x) = true := by rw [beq_iff_eq]; exact ne
    rw [ed]
    clear hc ek k2 ed ne
    generalize gX l k = x0 at *
    generalize gR l k = r0 at *
    generalize l.length = n at *
    go_enter Try.func53, Try.ntmps53
    go_wp2_with fail
    refine HI.out.mono ?_
    rintro e w1 ⟨rfl, gg⟩
    have X := Lib.hid gg; clear gg
    obtain ⟨c0, c1⟩ := HC0.out _ X.out
    go_wp2
    go_returns
    exact ⟨rfl, X.out⟩
  · obtain ⟨k3, k4⟩ := k2 ne
    have ed := atD_eq h k3 k1 k4
    have e1 : (gX l k == x) = false := by rw [beq_eq_false_iff_ne]; exact ne
    have l1 : ((k + 1 : Nat) : Int) < (l.length : Int) := by omega
    have wk : IntKind.i64.wrap ((k : Int) + 1) = ((k + 1 : Nat) : Int) := by rw [wrap_in _ ⟨by omega, by omega⟩]; omega
    have HC1 : Hid (∀ W, Below w.heap.size w W → W.cell? ⟨b, off + (k + 1) * 2, none⟩ = some (.int .i64 (gX l (k + 1))) ∧ W.cell? ⟨b, off + (k + 1) * 2 + 1, none⟩ = some (.int .i64 (gR l (k + 1)))) := Lib.hid fun W hW => ⟨cell_bel (hc (k + 1) k3).1 hW, cell_bel (hc (k + 1) k3).2 hW⟩
    have bt := fun W => rfLn_any (gX l k) (gR l k) (gX l (k + 1)) (gR l (k + 1)) x W (h.b k kl).1 (h.lt (by omega) k3) (h.b _ k3).2.1 k1 k4 (by have := (h.b _ k3).2.2.1; omega) (h.ge (by omega) k3) (h.b _ kl).2.2.2
    rw [← ed] at bt
    replace bt := Lib.hid bt
    clear hc ek k2 ed ne k4 k1
    generalize atD l x = V at *
    generalize gX l k = x0 at *
    generalize gR l k = r0 at *
    generalize gX l (k + 1) = x1 at *
    generalize gR l (k + 1) = r1 at *
    generalize l.length = n at *
    generalize hk1 : k + 1 = k1 at *
    go_enter Try.func53, Try.ntmps53
    go_wp2_with fail
    refine HI.out.mono ?_
    rintro e w1 ⟨rfl, gg⟩
    have X := Lib.hid gg; clear gg
    obtain ⟨c0, c1⟩ := HC0.out _ X.out
    obtain ⟨f0, f1⟩ := HC1.out _ X.out
    go_wp2_with fail
    go_still_tail 10, (by kernel_rfl)
    change wpList _ _ _ _ _ w1.drew
    replace X := Lib.hid (bel_trans X.out (bel_drew w1))
    generalize w1.drew = wq at *
    go_wp2_with fail
    refine (bt.out _).mono ?_
    rintro e w2 ⟨rfl, gg⟩
    replace X := Lib.hid (bel_trans X.out gg); clear gg
    go_wp2
    go_returns
    exact ⟨rfl, X.out⟩
end Go.Proofs.Ytfkcgdnpfngdkaa

namespace Go.Proofs.Ytfkcgdnpfngdkaa
open Go.RowKit

set_option maxHeartbeats 16000000 in
set_option maxRecDepth 100000 in
theorem rlChk_any (v : Value) (l : List (Int × Int)) (A M : Int) (w : World) (hv : Pts w v l) :
    Calls Try.prog 52 #[v, .agg #[.int .i64 A, .int .i64 M]] w fun e w' => e = .returned (.int .i64 (alE l A M)) ∧ Below w.heap.size w w' := by
  have HR := Lib.hid (fun W (hW : Below w.heap.size w W) => rnRt_any v l W (hv.below hW))
  have T0 := Lib.hid (Two.new w (.int .i64 A) (.int .i64 M) 24)
  have X0 := Lib.hid (bel_alloc (w := w) (o := .cells #[.int .i64 A, .int .i64 M] 24) (Below.refl _ _))
  by_cases he : dnE l = 0
  · have hD := dnE_zero.1 he
    rw [show (dnE l == 0) = true by simpa using he] at HR
    by_cases ho : 0 ≤ A ∧ A ≤ 10737418240000 ∧ 0 ≤ M ∧ M ≤ 128849018880000
    · have HC := Lib.hid (fun W (hW : Below w.heap.size w W) => rfAt_any v l 10000 W (hv.below hW) hD (by omega) (by omega))
      have ee : alE l A M = if M * 10000 < A * atD l 10000 then 10 else 0 := by unfold alE; rw [if_neg (by omega), if_pos ho]
      have bd := (atD_bd hD (s := 10000) (by omega) (by omega)).2.2
      have p1 : 0 ≤ A * atD l 10000 := Int.mul_nonneg ho.1 (by omega)
      have p2 : A * atD l 10000 ≤ 10737418240000 * 120000 := Int.mul_le_mul ho.2.1 bd.2 (by omega) (by omega)
      rw [ee]
      generalize atD l 10000 = d at *
      have wa : IntKind.i64.wrap (A * d) = A * d := wrap_in _ ⟨by omega, by omega⟩
      have wm : IntKind.i64.wrap (M * 10000) = M * 10000 := wrap_in _ ⟨by omega, by omega⟩
      have d1 : decide (A < 0) = false := decide_eq_false (by omega)
      have d2 : decide (10737418240000 < A) = false := decide_eq_false (by omega)
      have d3 : decide (M < 0) = false := decide_eq_false (by omega)
      have d4 : decide (128849018880000 < M) = false := decide_eq_false (by omega)
      clear ee
      by_cases hc : M * 10000 < A * d
      · rw [if_pos hc]
        have dc : decide (M * 10000 < A * d) = true := decide_eq_true hc
        go_enter Try.func52, Try.ntmps52
        go_wp2_with fail
        refine (HR.out _ X0.out).mono ?_
        rintro e w1 ⟨rfl, gg⟩
        replace T0 := Lib.hid (T0.out.below gg)
        have X := Lib.hid (bel_trans X0.out gg); clear gg
        obtain ⟨t0, t1, _, _, _⟩ := T0.out
        go_upto_region 5 with fail
        replace T0 := Lib.hid (T0.out.below (bel_drew w1))
        replace X := Lib.hid (bel_trans X.out (bel_drew w1))
        obtain ⟨t0, t1, _, _, _⟩ := T0.out
        go_region_held3 (fun w' => w'.cell? ⟨w.heap.size, 0, none⟩ = some (.int .i64 A) ∧ w'.cell? ⟨w.heap.size, 1, none⟩ = some (.int .i64 M)) (go_keep) (first
          | (go_at_call 53; (with_reducible refine (HC.out _ X.out).mono ?_); rintro e w3 ⟨rfl, gg⟩; replace T0 := Lib.hid (T0.out.below gg); replace X := Lib.hid (bel_trans X.out gg); obtain ⟨t0, t1, _, _, _⟩ := T0.out; clear gg))
        all_goals go_wp2
        all_goals go_returns
        all_goals exact ⟨rfl, X.out⟩
      · rw [if_neg hc]
        have dc : decide (M * 10000 < A * d) = false := decide_eq_false hc
        go_enter Try.func52, Try.ntmps52
        go_wp2_with fail
        refine (HR.out _ X0.out).mono ?_
        rintro e w1 ⟨rfl, gg⟩
        replace T0 := Lib.hid (T0.out.below gg)
        have X := Lib.hid (bel_trans X0.out gg); clear gg
        obtain ⟨t0, t1, _, _, _⟩ := T0.out
        go_upto_region 5 with fail
        replace T0 := Lib.hid (T0.out.below (bel_drew w1))
        replace X := Lib.hid (bel_trans X.out (bel_drew w1))
        obtain ⟨t0, t1, _, _, _⟩ := T0.out
        go_region_held3 (fun w' => w'.cell? ⟨w.heap.size, 0, none⟩ = some (.int .i64 A) ∧ w'.cell? ⟨w.heap.size, 1, none⟩ = some (.int .i64 M)) (go_keep) (first
          | (go_at_call 53; (with_reducible refine (HC.out _ X.out).mono ?_); rintro e w3 ⟨rfl, gg⟩; replace T0 := Lib.hid (T0.out.below gg); replace X := Lib.hid (bel_trans X.out gg); obtain ⟨t0, t1, _, _, _⟩ := T0.out; clear gg))
        all_goals go_wp2
        all_goals go_returns
        all_goals exact ⟨rfl, X.out⟩
    · have ee : alE l A M = 2 := by unfold alE; rw [if_neg (by omega), if_neg ho]
      rw [ee]
      by_cases g1 : A < 0
      · have d1 : decide (A < 0) = true := decide_eq_true g1
        go_enter Try.func52, Try.ntmps52
        go_wp2_with fail
        refine (HR.out _ X0.out).mono ?_
        rintro e w1 ⟨rfl, gg⟩
        replace T0 := Lib.hid (T0.out.below gg)
        have X := Lib.hid (bel_trans X0.out gg); clear gg
        obtain ⟨t0, t1, _, _, _⟩ := T0.out
        go_wp2
        go_returns
        exact ⟨rfl, X.out⟩
      have d1 : decide (A < 0) = false := decide_eq_false g1
      by_cases g2 : 10737418240000 < A
      · have d2 : decide (10737418240000 < A) = true := decide_eq_true g2
        go_enter Try.func52, Try.ntmps52
        go_wp2_with fail
        refine (HR.out _ X0.out).mono ?_
        rintro e w1 ⟨rfl, gg⟩
        replace T0 := Lib.hid (T0.out.below gg)
        have X := Lib.hid (bel_trans X0.out gg); clear gg
        obtain ⟨t0, t1, _, _, _⟩ := T0.out
        go_wp2
        go_returns
        exact ⟨rfl, X.out⟩
      have d2 : decide (10737418240000 < A) = false := decide_eq_false g2
      by_cases g3 : M < 0
      · have d3 : decide (M < 0) = true := decide_eq_true g3
        go_enter Try.func52, Try.ntmps52
        go_wp2_with fail
        refine (HR.out _ X0.out).mono ?_
        rintro e w1 ⟨rfl, gg⟩
        replace T0 := Lib.hid (T0.out.below gg)
        have X := Lib.hid (bel_trans X0.out gg); clear gg
        obtain ⟨t0, t1, _, _, _⟩ := T0.out
        go_wp2
        go_returns
        exact ⟨rfl, X.out⟩
      have d3 : decide (M < 0) = false := decide_eq_false g3
      have d4 : decide (128849018880000 < M) = true := decide_eq_true (by omega)
      go_enter Try.func52, Try.ntmps52
      go_wp2_with fail
      refine (HR.out _ X0.out).mono ?_
      rintro e w1 ⟨rfl, gg⟩
      replace T0 := Lib.hid (T0.out.below gg)
      have X := Lib.hid (bel_trans X0.out gg); clear gg
      obtain ⟨t0, t1, _, _, _⟩ := T0.out
      go_wp2
      go_returns
      exact ⟨rfl, X.out⟩
  · have ee : alE l A M = 1 := by unfold alE; rw [if_pos he]
    rw [ee]
    rw [show (dnE l == 0) = false by simpa using he] at HR
    go_enter Try.func52, Try.ntmps52
    go_wp2_with fail
    refine (HR.out _ X0.out).mono ?_
    rintro e w1 ⟨rfl, gg⟩
    have X := Lib.hid (bel_trans X0.out gg); clear gg
    go_wp2
    go_returns
    exact ⟨rfl, X.out⟩
set_option maxHeartbeats 16000000 in
set_option maxRecDepth 100000 in
theorem rlGr_any (v : Value) (l : List (Int × Int)) (A M : Int) (w : World) (hv : Pts w v l) (hD : DR l) (hL : LR l A M) :
    Calls Try.prog 39 #[v, .agg #[.int .i64 A, .int .i64 M]] w fun e w' => e = .returned (.int .i64 (sgN l A M : Nat)) ∧ Below w.heap.size w w' := by
  have T0 := Lib.hid (Two.new w (.int .i64 A) (.int .i64 M) 24)
  have X := Lib.hid (bel_alloc (w := w) (o := .cells #[.int .i64 A, .int .i64 M] 24) (Below.refl _ _))
  obtain ⟨t0, t1, _, _, _⟩ := T0.out
  by_cases z : M = 0
  · have e1 := hL.zero hD z
    subst z e1
    rw [sgN_dry]
    go_enter Try.func39, Try.ntmps39
    go_wp2
    go_returns
    exact ⟨rfl, X.out⟩
  · have dz : (M == 0) = false := by rw [beq_eq_false_iff_ne]; exact z
    have le := sgN_le l A M
    have HI := Lib.hid (fun (m : Nat) (hm : m ≤ 10000) => sgN_iff hD hL z (s := (m : Int)) (by omega) (by omega))
    have HA := Lib.hid (fun (m : Nat) (hm : m ≤ 10000) W (hW : Below w.heap.size w W) => rfAt_any v l m W (hv.below hW) hD (by omega) (by omega))
    have HP := Lib.hid (fun (m : Nat) (hm : m ≤ 10000) => show (0 ≤ A * atD l m ∧ A * atD l m ≤ 2000000000000000000) ∧ (0 ≤ M * (m : Int) ∧ M * (m : Int) ≤ 2000000000000000000) by
      have b := (atD_bd hD (s := (m : Int)) (by omega) (by omega)).2.2
      have p0 : 0 ≤ A * atD l m := Int.mul_nonneg hL.a0 (by omega)
      have p1 : A * atD l m ≤ 10737418240000 * 120000 := Int.mul_le_mul hL.a1 b.2 (by omega) (by omega)
      have p2 : 0 ≤ M * (m : Int) := Int.mul_nonneg hL.m0 (by omega)
      have p3 : M * (m : Int) ≤ 128849018880000 * 10000 := Int.mul_le_mul hL.m1 (by omega) (by omega) (by omega)
      exact ⟨⟨p0, by omega⟩, p2, by omega⟩)
    clear z hL hD hv
    generalize sgN l A M = S at *
    go_enter Try.func39, Try.ntmps39
    go_wp2_with fail
    go_loopw [5, 6] (fun s5 s6 wr => ∃ lo hi : Nat, s5 = .int .i64 lo ∧ s6 = .int .i64 hi ∧ lo ≤ S ∧ S ≤ hi ∧ hi ≤ 10000 ∧ Hid (Below w.heap.size w wr ∧ Two w.heap.size wr (.int .i64 A) (.int .i64 M))) (fun s5 s6 _ => (intOf s6).toNat - (intOf s5).toNat)
    case atStart => exact ⟨0, 10000, rfl, rfl, Nat.zero_le _, le, Nat.le_refl _, X.out, T0.out⟩
    case round =>
      obtain ⟨lo, hi, rfl, rfl, h1, h2, h3, hB⟩ := hrel
      clear T0 X t0 t1
      obtain ⟨t0, t1, _, _, _⟩ := hB.out.2
      by_cases hlt : lo < hi
      · obtain ⟨m, hm⟩ : ∃ m : Nat, m = (lo + hi + 1) / 2 := ⟨_, rfl⟩
        have m1 : lo < m := by omega
        have m2 : m ≤ hi := by omega
        have l0 : (lo : Int) < (hi : Int) := by omega
        have em : ((lo : Int) + (hi : Int) + 1) / 2 = (m : Int) := by omega
        have HM := Lib.hid (HI.out m (by omega))
        have HC := Lib.hid (HA.out m (by omega))
        obtain ⟨⟨p0, p1⟩, p2, p3⟩ := HP.out m (by omega)
        generalize atD l (m : Int) = D at *
        have wa : IntKind.i64.wrap (A * D) = A * D := wrap_in _ ⟨by omega, by omega⟩
        have wb : IntKind.i64.wrap (M * (m : Int)) = M * (m : Int) := wrap_in _ ⟨by omega, by omega⟩
        replace hm := Lib.hid hm
        replace m1 := Lib.hid m1
        replace m2 := Lib.hid m2
        by_cases q : M * (m : Int) ≤ A * D
        · have dq : decide (M * (m : Int) ≤ A * D) = true := decide_eq_true q
          have k := Lib.hid (HM.out.1 q)
          replace h1 := Lib.hid h1
          replace h2 := Lib.hid h2
          clear HM q
          go_upto_region 6 with fail
          rw [em]
          replace hB := Lib.hid (show Below w.heap.size w wr.drew ∧ Two w.heap.size wr.drew (.int .i64 A) (.int .i64 M) from ⟨bel_trans hB.out.1 (bel_drew wr), hB.out.2.below (bel_drew wr)⟩)
          obtain ⟨t0, t1, _, _, _⟩ := hB.out.2
          go_region_held3 (fun w' => w'.cell? ⟨w.heap.size, 0, none⟩ = some (.int .i64 A) ∧ w'.cell? ⟨w.heap.size, 1, none⟩ = some (.int .i64 M)) (go_keep) (first
            | (go_at_call 53; (with_reducible refine (HC.out _ hB.out.1).mono ?_); rintro e w3 ⟨rfl, gg⟩; replace hB := Lib.hid (show Below w.heap.size w w3 ∧ Two w.heap.size w3 (.int .i64 A) (.int .i64 M) from ⟨bel_trans hB.out.1 gg, hB.out.2.below gg⟩); obtain ⟨t0, t1, _, _, _⟩ := hB.out.2; clear gg))
          all_goals
            go_wp2
            go_roundw
            case rel => exact ⟨m, hi, rfl, rfl, by have := k.out; omega, h2.out, h3, hB⟩
            case measure => have := m1.out; have := m2.out; simp [intOf]; omega
        · have dq : decide (M * (m : Int) ≤ A * D) = false := decide_eq_false q
          have k : Hid (S < m) := Lib.hid (by
            rcases Nat.lt_or_ge S m with g | g
            · exact g
            · exact absurd (HM.out.2 (by omega)) q)
          replace h1 := Lib.hid h1
          replace h2 := Lib.hid h2
          clear HM q
          go_upto_region 6 with fail
          rw [em]
          replace hB := Lib.hid (show Below w.heap.size w wr.drew ∧ Two w.heap.size wr.drew (.int .i64 A) (.int .i64 M) from ⟨bel_trans hB.out.1 (bel_drew wr), hB.out.2.below (bel_drew wr)⟩)
          obtain ⟨t0, t1, _, _, _⟩ := hB.out.2
          go_region_held3 (fun w' => w'.cell? ⟨w.heap.size, 0, none⟩ = some (.int .i64 A) ∧ w'.cell? ⟨w.heap.size, 1, none⟩ = some (.int .i64 M)) (go_keep) (first
            | (go_at_call 53; (with_reducible refine (HC.out _ hB.out.1).mono ?_); rintro e w3 ⟨rfl, gg⟩; replace hB := Lib.hid (show Below w.heap.size w w3 ∧ Two w.heap.size w3 (.int .i64 A) (.int .i64 M) from ⟨bel_trans hB.out.1 gg, hB.out.2.below gg⟩); obtain ⟨t0, t1, _, _, _⟩ := hB.out.2; clear gg))
          all_goals
            go_wp2
            go_roundw
            case rel => exact ⟨lo, m - 1, rfl, by have := m1.out; go_num, h1.out, by have := k.out; omega, by have := m2.out; omega, hB⟩
            case measure => have := m1.out; have := m2.out; simp [intOf]; omega
      · obtain rfl : lo = hi := by omega
        obtain rfl : lo = S := by omega
        go_wp2
        go_returns
        exact ⟨rfl, hB.out.1⟩
end Go.Proofs.Ytfkcgdnpfngdkaa

namespace Go.Proofs.Ytfkcgdnpfngdkaa
open Go.RowKit

set_option maxHeartbeats 16000000 in
set_option maxRecDepth 100000 in
theorem rlSz_any (v : Value) (l : List (Int × Int)) (A M : Int) (w : World) (hv : Pts w v l) (hD : DR l) (hL : LR l A M) :
    Calls Try.prog 38 #[v, .agg #[.int .i64 A, .int .i64 M]] w fun e w' => e = .returned (.int .i64 (vlN l A M)) ∧ Below w.heap.size w w' := by
  have T0 := Lib.hid ((Two.new w (.int .i64 A) (.int .i64 M) 24).below (bel_drew _))
  have X := Lib.hid (bel_alloc (w := w) (o := .cells #[.int .i64 A, .int .i64 M] 24) (bel_drew _))
  have HG := Lib.hid (fun W (hW : Below w.heap.size w W) => rlGr_any v l A M W (hv.below hW) hD hL)
  have le := sgN_le l A M
  have HA := Lib.hid (fun W (hW : Below w.heap.size w W) => rfAt_any v l (sgN l A M : Int) W (hv.below hW) hD (by omega) (by omega))
  have sb := at_sg hD A M
  have m0 := hL.m0
  have m1 := hL.m1
  have vb := vlN_bd hD hL
  have ev : vlN l A M = M / atD l (sgN l A M) := rfl
  obtain ⟨t0, t1, _, _, _⟩ := T0.out
  generalize atD l (sgN l A M) = D at *
  generalize sgN l A M = S at *
  have nz : (D == 0) = false := by rw [beq_eq_false_iff_ne]; omega
  have nz2 : ¬ D = 0 := by omega
  have wq : IntKind.i64.wrap (M.tdiv D) = vlN l A M := by rw [Int.tdiv_eq_ediv_of_nonneg m0, ← ev]; exact wrap_in _ ⟨by omega, by omega⟩
  have wq2 : M / D = vlN l A M := ev.symm
  clear ev
  generalize vlN l A M = V at *
  go_enter Try.func38, Try.ntmps38
  go_wp2_with fail
  go_region_held3 (fun w' => w'.cell? ⟨w.heap.size, 0, none⟩ = some (.int .i64 A) ∧ w'.cell? ⟨w.heap.size, 1, none⟩ = some (.int .i64 M)) (go_keep) (first
    | (go_at_call 39; (with_reducible refine (HG.out _ X.out).mono ?_); rintro e w3 ⟨rfl, gg⟩; replace T0 := Lib.hid (T0.out.below gg); replace X := Lib.hid (bel_trans X.out gg); obtain ⟨t0, t1, _, _, _⟩ := T0.out; clear gg)
    | (go_at_call 53; (with_reducible refine (HA.out _ X.out).mono ?_); rintro e w4 ⟨rfl, gg⟩; replace T0 := Lib.hid (T0.out.below gg); replace X := Lib.hid (bel_trans X.out gg); obtain ⟨t0, t1, _, _, _⟩ := T0.out; clear gg))
  all_goals go_wp2
  all_goals go_returns
  all_goals exact ⟨by first | rfl | rw [wq2], X.out⟩

end Go.Proofs.Ytfkcgdnpfngdkaa

namespace Go.Proofs.Ytfkcgdnpfngdkaa
open Go.RowKit

set_option maxHeartbeats 4000000 in
theorem rxPl_any (A M : Int) (w : World) :
    Calls Try.prog 28 #[.agg #[.int .i64 A, .int .i64 M]] w fun e w' => e = .returned (.bool (plB A M)) ∧ Below w.heap.size w w' := by
  have X := Lib.hid (bel_alloc (o := .cells #[.int .i64 A, .int .i64 M] 24) (Below.refl _ (w.alloc (.cells #[.int .i64 A, .int .i64 M] 24))))
  have E : plB A M = (decide (0 ≤ A) && decide (A ≤ 10737418240000) && decide (0 ≤ M) && decide (M ≤ 128849018880000) && (decide (0 < M) || (A == 0))) := by
    rw [Bool.eq_iff_iff, plB_iff]
    simp only [Bool.and_eq_true, Bool.or_eq_true, decide_eq_true_eq, beq_iff_eq]
    omega
  rw [E]; clear E
  by_cases g0 : ¬ (0 ≤ A)
  · have d0 : decide (0 ≤ A) = false := decide_eq_false g0
    simp only [d0, Bool.true_and, Bool.false_and]
    clear g0
    go_enter Try.func28, Try.ntmps28
    go_wp2
    go_returns
    exact ⟨rfl, X.out⟩
  have h0 : 0 ≤ A := Classical.not_not.1 g0
  have d0 : decide (0 ≤ A) = true := decide_eq_true h0
  clear g0
  by_cases g1 : ¬ (A ≤ 10737418240000)
  · have d1 : decide (A ≤ 10737418240000) = false := decide_eq_false g1
    simp only [d0, d1, Bool.true_and, Bool.false_and]
    clear h0 g1
    go_enter Try.func28, Try.ntmps28
    go_wp2
    go_returns
    exact ⟨rfl, X.out⟩
  have h1 : A ≤ 10737418240000 := Classical.not_not.1 g1
  have d1 : decide (A ≤ 10737418240000) = true := decide_eq_true h1
  clear g1
  by_cases g2 : ¬ (0 ≤ M)
  · have d2 : decide (0 ≤ M) = false := decide_eq_false g2
    simp only [d0, d1, d2, Bool.true_and, Bool.false_and]
    clear h0 h1 g2
    go_enter Try.func28, Try.ntmps28
    go_wp2
    go_returns
    exact ⟨rfl, X.out⟩
  have h2 : 0 ≤ M := Classical.not_not.1 g2
  have d2 : decide (0 ≤ M) = true := decide_eq_true h2
  clear g2
  by_cases g3 : ¬ (M ≤ 128849018880000)
  · have d3 : decide (M ≤ 128849018880000) = false := decide_eq_false g3
    simp only [d0, d1, d2, d3, Bool.true_and, Bool.false_and]
    clear h0 h1 h2 g3
    go_enter Try.func28, Try.ntmps28
    go_wp2
    go_returns
    exact ⟨rfl, X.out⟩
  have h3 : M ≤ 128849018880000 := Classical.not_not.1 g3
  have d3 : decide (M ≤ 128849018880000) = true := decide_eq_true h3
  clear g3
  simp only [d0, d1, d2, d3, Bool.true_and]
  clear h0 h1 h2 h3
  by_cases h4 : 0 < M
  · have d4 : decide (0 < M) = true := decide_eq_true h4
    simp only [d4, Bool.true_or]
    clear h4
    go_enter Try.func28, Try.ntmps28
    go_wp2
    go_returns
    exact ⟨rfl, X.out⟩
  · have d4 : decide (0 < M) = false := decide_eq_false h4
    simp only [d4, Bool.false_or]
    clear h4
    generalize hB : (A == 0) = B
    go_enter Try.func28, Try.ntmps28
    go_wp2
    go_returns
    exact ⟨rfl, X.out⟩
set_option maxHeartbeats 4000000 in
set_option maxRecDepth 100000 in
theorem rxPlus_any (a b p q : Int) (w : World) (wa : IntKind.i64.wrap (a + p) = a + p) (wb : IntKind.i64.wrap (b + q) = b + q) :
    Calls Try.prog 41 #[.agg #[.int .i64 a, .int .i64 b], .agg #[.int .i64 p, .int .i64 q]] w fun e w' => e = .returned (.agg #[.int .i64 (a + p), .int .i64 (b + q)]) ∧ Below w.heap.size w w' := by
  go_enter Try.func41, Try.ntmps41
  go_wp2
  go_returns
  exact ⟨rfl, by go_grown⟩
set_option maxHeartbeats 16000000 in
set_option maxRecDepth 100000 in
theorem rxTot_any (v : Value) (l : List (Int × Int)) (w : World) (hv : Pts w v l) (hn : l.length ≤ 8) (hp : allP l = true) :
    Calls Try.prog 29 #[v] w fun e w' => e = .returned (.agg #[.int .i64 (sm fA l), .int .i64 (sm fM l)]) ∧ Below w.heap.size w w' := by
  obtain ⟨a, cap, rfl, hcap, hh⟩ := hv
  have NV0 : Hid (Pts w (.slice a l.length cap) l) := ⟨a, cap, rfl, hcap, hh⟩
  clear hh hcap
  have HS := Lib.hid (sm_step fA l)
  have HT := Lib.hid (sm_step fM l)
  have FS := Lib.hid (sm_full fA l)
  have FT := Lib.hid (sm_full fM l)
  have HX := Lib.hid (fun k (hk : k < l.length) => plB_iff.1 (allP_at hp hk))
  have HY := Lib.hid (fun k => mix_bd (allP_take hp k))
  have HL := Lib.hid (fun k => List.length_take_le k l)
  generalize sm fA l = SA at *
  generalize sm fM l = SM at *
  generalize hN : l.length = n at *
  have HB : Hid (Below w.heap.size w ((w.alloc (.cells #[.int .i64 0, .int .i64 0] 24)).alloc (.cells #[.int .i64 0, .int .i64 0] 24))) := Lib.hid (bel_alloc (bel_alloc (Below.refl _ _)))
  have T0 : Hid (Two w.heap.size ((w.alloc (.cells #[.int .i64 0, .int .i64 0] 24)).alloc (.cells #[.int .i64 0, .int .i64 0] 24)) (.int .i64 0) (.int .i64 0)) := Lib.hid ((Two.new w _ _ _).alloc _)
  have T1 := Lib.hid (two_new1 w (.cells #[.int .i64 0, .int .i64 0] 24) (.int .i64 0) (.int .i64 0) 24)
  go_enter Try.func29, Try.ntmps29
  go_wp2_with fail
  go_loopw [4] (fun i wr => ∃ k : Nat, k ≤ n ∧ i = .int .i64 k ∧ Hid (Below w.heap.size w wr) ∧ Hid (Two w.heap.size wr (.int .i64 0) (.int .i64 0)) ∧ Hid (Two (w.heap.size + 1) wr (.int .i64 (sm fA (l.take k))) (.int .i64 (sm fM (l.take k))))) (fun i _ => n - (intOf i).toNat)
  case atStart => exact ⟨0, Nat.zero_le _, rfl, HB, T0, T1⟩
  case round =>
    clear HB T0 T1
    obtain ⟨k, hk, rfl, X, T0, T1⟩ := hrel
    by_cases hlt : k < n
    · have NV := Lib.hid (NV0.out.below X.out)
      have x := HX.out k hlt
      have y := HY.out k
      have yl := HL.out k
      have S1 := Lib.hid (HS.out k hlt)
      have S2 := Lib.hid (HT.out k hlt)
      change Hid (sm fA (l.take (k + 1)) = sm fA (l.take k) + gX l k) at S1
      change Hid (sm fM (l.take (k + 1)) = sm fM (l.take k) + gR l k) at S2
      have bd : 0 ≤ sm fA (l.take k) ∧ sm fA (l.take k) ≤ 85899345920000 ∧ 0 ≤ sm fM (l.take k) ∧ sm fM (l.take k) ≤ 1030792151040000 := by omega
      clear y yl
      obtain ⟨b, off, rfl, hb, hc⟩ := NV.out.at (by omega)
      obtain ⟨c0, c1⟩ := hc k hlt
      clear hc
      generalize gX l k = A at *
      generalize gR l k = M at *
      generalize sm fA (l.take k) = S at *
      generalize sm fM (l.take k) = R at *
      have HP := Lib.hid (fun W => rxPlus_any S R A M W (wrap_in _ ⟨by omega, by omega⟩) (wrap_in _ ⟨by omega, by omega⟩))
      have l9 : (k : Int) < (n : Int) := by omega
      obtain ⟨t0, t1, t2, t3, t4⟩ := T1.out
      go_upto_region 5 with fail
      go_still_tail 5, (by kernel_rfl)
      change wpList _ _ _ _ _ wr.drew
      replace X := Lib.hid (bel_trans X.out (bel_drew wr))
      replace T0 := Lib.hid (T0.out.below (bel_drew wr))
      replace T1 := Lib.hid (T1.out.below (bel_drew wr))
      clear t0 t1 t2 t3 t4 c0 c1 NV
      generalize wr.drew = wq at *
      go_wp2_with fail
      refine (HP.out _).mono ?_
      rintro e w2 ⟨rfl, gg⟩
      replace X := Lib.hid (bel_trans X.out gg)
      replace T0 := Lib.hid (T0.out.below gg)
      replace T1 := Lib.hid (T1.out.below gg)
      clear gg
      have n1 : w.heap.size + 1 ≠ w.heap.size := by omega
      have n2 : w.heap.size ≤ w.heap.size + 1 := by omega
      have N0 := Lib.hid ((T0.out.other ⟨w.heap.size + 1, 0, none⟩ n1 (.int .i64 (S + A))).other ⟨w.heap.size + 1, 1, none⟩ n1 (.int .i64 (R + M)))
      have N1 := Lib.hid ((T1.out.set0 (.int .i64 (S + A))).set1 (.int .i64 (R + M)))
      have NX := Lib.hid ((X.out.setCell (p := ⟨w.heap.size + 1, 0, none⟩) n2 (.int .i64 (S + A))).setCell (p := ⟨w.heap.size + 1, 1, none⟩) n2 (.int .i64 (R + M)))
      obtain ⟨t0, t1, t2, t3, t4⟩ := T1.out
      go_wp2
      go_roundw
      case rel => exact ⟨k + 1, by omega, by go_num, NX, N0, by rw [S1.out, S2.out]; exact N1⟩
      case measure => simp [intOf]; omega
    · obtain rfl : k = n := by omega
      rw [FS.out, FT.out] at T1
      obtain ⟨t0, t1, t2, t3, t4⟩ := T1.out
      obtain ⟨z0, z1, z2, z3, z4⟩ := T0.out
      go_wp2
      obtain ⟨r0, r1⟩ := two_read wr w.heap.size (.int .i64 SA) (.int .i64 SM) z0 z1
      refine bodyPost_ret (v := .agg #[.int .i64 SA, .int .i64 SM]) (by simp [results, Try.results29, go_sem, r0, r1]) rfl ?_
      exact ⟨rfl, (X.out.setCell (Nat.le_refl _) _).setCell (Nat.le_refl _) _⟩
set_option maxHeartbeats 8000000 in
set_option maxRecDepth 100000 in
theorem rxSu_long (a : Option Addr) (n cap : Nat) (w : World) (h : 8 < n) (hn : n ≤ 9223372036854775807) :
    Calls Try.prog 12 #[.slice a n cap] w fun e w' => e = .returned (.tuple #[.agg #[.int .i64 0, .int .i64 0], .int .i64 8]) ∧ Below w.heap.size w w' := by
  have q : decide (8 < (n : Int)) = true := decide_eq_true (by omega)
  go_enter Try.func12, Try.ntmps12
  go_wp2
  go_returns
  exact ⟨rfl, by go_grown⟩
set_option maxHeartbeats 16000000 in
set_option maxRecDepth 100000 in
theorem rxSu_bad (a : Option Addr) (n cap m : Nat) (l : List (Int × Int)) (w : World) (NV : Hid (Pts w (.slice a n cap) l)) (hn : n ≤ 8) (hm : m < n) (hp : Hid (∀ j, j < m → plB (gX l j) (gR l j) = true)) (hq : plB (gX l m) (gR l m) = false) :
    Calls Try.prog 12 #[.slice a n cap] w fun e w' => e = .returned (.tuple #[.agg #[.int .i64 0, .int .i64 0], .int .i64 1]) ∧ Below w.heap.size w w' := by
  have q : decide (8 < (n : Int)) = false := decide_eq_false (by omega)
  have X := Lib.hid (bel_alloc (w := w) (o := .cells #[.int .i64 0, .int .i64 0] 24) (Below.refl _ _))
  have T0 := Lib.hid (Two.new w (.int .i64 0) (.int .i64 0) 24)
  have NV0 := Lib.hid NV.out
  clear NV
  go_enter Try.func12, Try.ntmps12
  go_wp2_with fail
  go_loopw [4] (fun i wr => ∃ k : Nat, k ≤ m ∧ i = .int .i64 k ∧ Hid (Below w.heap.size w wr) ∧ Hid (Two w.heap.size wr (.int .i64 0) (.int .i64 0))) (fun i _ => n - (intOf i).toNat)
  case atStart => exact ⟨0, Nat.zero_le _, rfl, X, T0⟩
  case round =>
    clear X T0
    obtain ⟨k, hk, rfl, X, T0⟩ := hrel
    have NV := Lib.hid (NV0.out.below X.out)
    by_cases hlt : k < m
    · have HP := Lib.hid (fun W => rxPl_any (gX l k) (gR l k) W)
      rw [hp.out k hlt] at HP
      have l9 : (k : Int) < (n : Int) := by omega
      obtain ⟨b, off, rfl, hb, hc⟩ := NV.out.at (by omega)
      obtain ⟨c0, c1⟩ := hc k (by omega)
      clear hc
      generalize gX l k = x at *
      generalize gR l k = y at *
      go_wp2_with fail
      refine (HP.out _).mono ?_
      rintro e w3 ⟨rfl, hb⟩
      replace X := Lib.hid (bel_trans X.out hb)
      replace T0 := Lib.hid (T0.out.below hb)
      clear hb
      go_wp2
      go_roundw
      case rel => exact ⟨k + 1, by omega, by go_num, X, T0⟩
      case measure => simp [intOf]; omega
    · obtain rfl : k = m := by omega
      have HP := Lib.hid (fun W => rxPl_any (gX l k) (gR l k) W)
      rw [hq] at HP
      clear hp hq
      have l9 : (k : Int) < (n : Int) := by omega
      obtain ⟨b, off, rfl, hb, hc⟩ := NV.out.at (by omega)
      obtain ⟨c0, c1⟩ := hc k (by omega)
      clear hc
      generalize gX l k = x at *
      generalize gR l k = y at *
      go_wp2_with fail
      refine (HP.out _).mono ?_
      rintro e w3 ⟨rfl, hb⟩
      replace X := Lib.hid (bel_trans X.out hb)
      replace T0 := Lib.hid (T0.out.below hb)
      clear hb
      obtain ⟨z0, z1, z2, z3, z4⟩ := T0.out
      go_wp2
      obtain ⟨r0, r1⟩ := two_read w3 w.heap.size (.int .i64 0) (.int .i64 0) z0 z1
      refine bodyPost_ret (v := .tuple #[.agg #[.int .i64 0, .int .i64 0], .int .i64 1]) (by simp [results, Try.results12, go_sem, r0, r1]) rfl ?_
      exact ⟨rfl, (X.out.setCell (Nat.le_refl _) _).setCell (Nat.le_refl _) _⟩
set_option maxHeartbeats 16000000 in
set_option maxRecDepth 100000 in
theorem rxSu_over (a : Option Addr) (n cap : Nat) (l : List (Int × Int)) (w : World) (NV : Hid (Pts w (.slice a n cap) l)) (hn : n ≤ 8) (hl : Hid (l.length = n)) (ha : allP l = true) (hp : Hid (∀ j, j < n → plB (gX l j) (gR l j) = true)) (hB : plB (sm fA l) (sm fM l) = false) :
    Calls Try.prog 12 #[.slice a n cap] w fun e w' => e = .returned (.tuple #[.agg #[.int .i64 0, .int .i64 0], .int .i64 15]) ∧ Below w.heap.size w w' := by
  have q : decide (8 < (n : Int)) = false := decide_eq_false (by omega)
  have X := Lib.hid (bel_alloc (w := w) (o := .cells #[.int .i64 0, .int .i64 0] 24) (Below.refl _ _))
  have T0 := Lib.hid (Two.new w (.int .i64 0) (.int .i64 0) 24)
  have NV0 := Lib.hid NV.out
  clear NV
  go_enter Try.func12, Try.ntmps12
  go_wp2_with fail
  go_loopw [4] (fun i wr => ∃ k : Nat, k ≤ n ∧ i = .int .i64 k ∧ Hid (Below w.heap.size w wr) ∧ Hid (Two w.heap.size wr (.int .i64 0) (.int .i64 0))) (fun i _ => n - (intOf i).toNat)
  case atStart => exact ⟨0, Nat.zero_le _, rfl, X, T0⟩
  case round =>
    clear X T0
    obtain ⟨k, hk, rfl, X, T0⟩ := hrel
    have NV := Lib.hid (NV0.out.below X.out)
    by_cases hlt : k < n
    · have HP := Lib.hid (fun W => rxPl_any (gX l k) (gR l k) W)
      rw [hp.out k hlt] at HP
      have l9 : (k : Int) < (n : Int) := by omega
      obtain ⟨b, off, rfl, hb, hc⟩ := NV.out.at (by omega)
      obtain ⟨c0, c1⟩ := hc k (by omega)
      clear hc
      generalize gX l k = x at *
      generalize gR l k = y at *
      go_wp2_with fail
      refine (HP.out _).mono ?_
      rintro e w3 ⟨rfl, hb⟩
      replace X := Lib.hid (bel_trans X.out hb)
      replace T0 := Lib.hid (T0.out.below hb)
      clear hb
      go_wp2
      go_roundw
      case rel => exact ⟨k + 1, by omega, by go_num, X, T0⟩
      case measure => simp [intOf]; omega
    · obtain rfl : k = n := by omega
      have HM := Lib.hid (fun W h => rxTot_any (.slice a k cap) l W h (by rw [hl.out]; exact hn) ha)
      have HP := Lib.hid (fun W => rxPl_any (sm fA l) (sm fM l) W)
      rw [hB] at HP
      generalize hx : sm fA l = x at *
      generalize hy : sm fM l = y at *
      replace hx := Lib.hid hx
      replace hy := Lib.hid hy
      go_wp2_with fail
      refine (HM.out _ NV.out).mono ?_
      rintro e w3 ⟨rfl, hb⟩
      have P0 := Lib.hid (Two.new w3 (.int .i64 x) (.int .i64 y) 24)
      replace X := Lib.hid (bel_trans (bel_trans X.out hb) (bel_alloc (o := .cells #[.int .i64 x, .int .i64 y] 24) (Below.refl _ _)))
      replace T0 := Lib.hid ((T0.out.below hb).alloc (.cells #[.int .i64 x, .int .i64 y] 24))
      clear hb
      obtain ⟨p0, p1, _, _, _⟩ := P0.out
      go_wp2_with fail
      refine (HP.out _).mono ?_
      rintro e w4 ⟨rfl, hb⟩
      replace P0 := Lib.hid (P0.out.below hb)
      replace X := Lib.hid (bel_trans X.out hb)
      replace T0 := Lib.hid (T0.out.below hb)
      clear hb p0 p1
      obtain ⟨p0, p1, _, _, _⟩ := P0.out
      obtain ⟨z0, z1, z2, z3, z4⟩ := T0.out
      go_wp2
      obtain ⟨r0, r1⟩ := two_read w4 w.heap.size (.int .i64 0) (.int .i64 0) z0 z1
      refine bodyPost_ret (v := .tuple #[.agg #[.int .i64 0, .int .i64 0], .int .i64 15]) (by simp [results, Try.results12, go_sem, r0, r1]) rfl ?_
      exact ⟨rfl, (X.out.setCell (Nat.le_refl _) _).setCell (Nat.le_refl _) _⟩
set_option maxHeartbeats 16000000 in
set_option maxRecDepth 100000 in
theorem rxSu_ok (a : Option Addr) (n cap : Nat) (l : List (Int × Int)) (w : World) (NV : Hid (Pts w (.slice a n cap) l)) (hn : n ≤ 8) (hl : Hid (l.length = n)) (ha : allP l = true) (hp : Hid (∀ j, j < n → plB (gX l j) (gR l j) = true)) (hB : plB (sm fA l) (sm fM l) = true) :
    Calls Try.prog 12 #[.slice a n cap] w fun e w' => e = .returned (.tuple #[.agg #[.int .i64 (sm fA l), .int .i64 (sm fM l)], .int .i64 0]) ∧ Below w.heap.size w w' := by
  have q : decide (8 < (n : Int)) = false := decide_eq_false (by omega)
  have X := Lib.hid (bel_alloc (w := w) (o := .cells #[.int .i64 0, .int .i64 0] 24) (Below.refl _ _))
  have T0 := Lib.hid (Two.new w (.int .i64 0) (.int .i64 0) 24)
  have NV0 := Lib.hid NV.out
  clear NV
  go_enter Try.func12, Try.ntmps12
  go_wp2_with fail
  go_loopw [4] (fun i wr => ∃ k : Nat, k ≤ n ∧ i = .int .i64 k ∧ Hid (Below w.heap.size w wr) ∧ Hid (Two w.heap.size wr (.int .i64 0) (.int .i64 0))) (fun i _ => n - (intOf i).toNat)
  case atStart => exact ⟨0, Nat.zero_le _, rfl, X, T0⟩
  case round =>
    clear X T0
    obtain ⟨k, hk, rfl, X, T0⟩ := hrel
    have NV := Lib.hid (NV0.out.below X.out)
    by_cases hlt : k < n
    · have HP := Lib.hid (fun W => rxPl_any (gX l k) (gR l k) W)
      rw [hp.out k hlt] at HP
      have l9 : (k : Int) < (n : Int) := by omega
      obtain ⟨b, off, rfl, hb, hc⟩ := NV.out.at (by omega)
      obtain ⟨c0, c1⟩ := hc k (by omega)
      clear hc
      generalize gX l k = x at *
      generalize gR l k = y at *
      go_wp2_with fail
      refine (HP.out _).mono ?_
      rintro e w3 ⟨rfl, hb⟩
      replace X := Lib.hid (bel_trans X.out hb)
      replace T0 := Lib.hid (T0.out.below hb)
      clear hb
      go_wp2
      go_roundw
      case rel => exact ⟨k + 1, by omega, by go_num, X, T0⟩
      case measure => simp [intOf]; omega
    · obtain rfl : k = n := by omega
      have HM := Lib.hid (fun W h => rxTot_any (.slice a k cap) l W h (by rw [hl.out]; exact hn) ha)
      have HP := Lib.hid (fun W => rxPl_any (sm fA l) (sm fM l) W)
      rw [hB] at HP
      generalize hx : sm fA l = x at *
      generalize hy : sm fM l = y at *
      replace hx := Lib.hid hx
      replace hy := Lib.hid hy
      go_wp2_with fail
      refine (HM.out _ NV.out).mono ?_
      rintro e w3 ⟨rfl, hb⟩
      have P0 := Lib.hid (Two.new w3 (.int .i64 x) (.int .i64 y) 24)
      replace X := Lib.hid (bel_trans (bel_trans X.out hb) (bel_alloc (o := .cells #[.int .i64 x, .int .i64 y] 24) (Below.refl _ _)))
      replace T0 := Lib.hid ((T0.out.below hb).alloc (.cells #[.int .i64 x, .int .i64 y] 24))
      clear hb
      obtain ⟨p0, p1, _, _, _⟩ := P0.out
      go_wp2_with fail
      refine (HP.out _).mono ?_
      rintro e w4 ⟨rfl, hb⟩
      replace P0 := Lib.hid (P0.out.below hb)
      replace X := Lib.hid (bel_trans X.out hb)
      replace T0 := Lib.hid (T0.out.below hb)
      clear hb p0 p1
      obtain ⟨p0, p1, _, _, _⟩ := P0.out
      obtain ⟨z0, z1, z2, z3, z4⟩ := T0.out
      go_wp2
      obtain ⟨r0, r1⟩ := two_read w4 w.heap.size (.int .i64 x) (.int .i64 y) z0 z1
      refine bodyPost_ret (v := .tuple #[.agg #[.int .i64 x, .int .i64 y], .int .i64 0]) (by simp [results, Try.results12, go_sem, r0, r1]) rfl ?_
      exact ⟨by rw [hx.out, hy.out], (X.out.setCell (Nat.le_refl _) _).setCell (Nat.le_refl _) _⟩
theorem rxSu_any (v : Value) (l : List (Int × Int)) (w : World) (hv : Pts w v l) :
    Calls Try.prog 12 #[v] w fun e w' => e = .returned (.tuple #[.agg #[.int .i64 (suA l), .int .i64 (suM l)], .int .i64 (suE l)]) ∧ Below w.heap.size w w' := by
  obtain ⟨a, cap, rfl, hcap, hh⟩ := id hv
  unfold suA suM
  by_cases h : 8 < l.length
  · have e : suE l = 8 := by unfold suE; rw [if_pos h]
    rw [e]; exact rxSu_long a _ cap w h (by omega)
  · cases ha : allP l with
    | false =>
      have e : suE l = 1 := by unfold suE; rw [if_neg h, if_pos ha]
      obtain ⟨k, hk, h1, h2⟩ := allP_bad ha
      rw [e]; exact rxSu_bad a _ cap k l w hv (by omega) hk h2 h1
    | true =>
      cases hB : plB (sm fA l) (sm fM l) with
      | false =>
        have e : suE l = 15 := by unfold suE; rw [if_neg h, if_neg (by simp [ha]), if_pos hB]
        rw [e]; exact rxSu_over a _ cap l w hv (by omega) rfl ha (fun j hj => allP_at ha hj) hB
      | true =>
        have e : suE l = 0 := suE_zero.2 ⟨by omega, ha, hB⟩
        rw [e]; exact rxSu_ok a _ cap l w hv (by omega) rfl ha (fun j hj => allP_at ha hj) hB
end Go.Proofs.Ytfkcgdnpfngdkaa

namespace Go.Proofs.Ytfkcgdnpfngdkaa
open Go.RowKit

set_option maxHeartbeats 8000000 in
theorem rxAs_long (tv : Value) (a : Option Addr) (n cap : Nat) (w : World) (h : 8 < n) (hn : n ≤ 9223372036854775807) :
    Calls Try.prog 37 #[tv, .slice a n cap] w fun e w' => e = .returned (.tuple #[.agg #[.int .i64 0, .int .i64 0], .int .i64 8]) ∧ Below w.heap.size w w' := by
  have q : decide (8 < (n : Int)) = true := decide_eq_true (by omega)
  go_enter Try.func37, Try.ntmps37
  go_wp2
  go_returns
  exact ⟨rfl, by go_grown⟩
set_option maxHeartbeats 16000000 in
set_option maxRecDepth 100000 in
theorem rxAs_table (tv : Value) (t : List (Int × Int)) (a : Option Addr) (n cap : Nat) (l : List (Int × Int)) (hn : n ≤ 8) (hz : (alE t 0 0 != 0) = true) (w : World) (HT0 : Hid (Pts w tv t)) (NV0 : Hid (Pts w (.slice a n cap) l)) :
    Calls Try.prog 37 #[tv, .slice a n cap] w fun e w' => e = .returned (.tuple #[.agg #[.int .i64 0, .int .i64 0], .int .i64 1]) ∧ Below w.heap.size w w' := by
  have q : decide (8 < (n : Int)) = false := decide_eq_false (by omega)
  have T0 := Lib.hid (Two.new w (.int .i64 0) (.int .i64 0) 24)
  have X := Lib.hid (bel_alloc (w := w) (o := .cells #[.int .i64 0, .int .i64 0] 24) (Below.refl _ _))
  have HG := Lib.hid (fun W h => rlChk_any tv t 0 0 W h)
  generalize alE t 0 0 = E0 at *
  go_enter Try.func37, Try.ntmps37
  go_wp2_with fail
  refine (HG.out _ (HT0.out.alloc _)).mono ?_
  rintro e w1 ⟨rfl, h1⟩
  replace T0 := Lib.hid (T0.out.below h1)
  replace X := Lib.hid (bel_trans X.out h1); clear h1
  obtain ⟨z0, z1, z2, z3, z4⟩ := T0.out
  go_wp2
  obtain ⟨r0, r1⟩ := two_read w1 w.heap.size (.int .i64 0) (.int .i64 0) z0 z1
  refine bodyPost_ret (v := .tuple #[.agg #[.int .i64 0, .int .i64 0], .int .i64 1]) (by simp [results, Try.results37, go_sem, r0, r1]) rfl ?_
  exact ⟨rfl, (X.out.setCell (Nat.le_refl _) _).setCell (Nat.le_refl _) _⟩
set_option maxHeartbeats 16000000 in
set_option maxRecDepth 100000 in
theorem rxAs_bad (tv : Value) (t : List (Int × Int)) (a : Option Addr) (n cap : Nat) (l : List (Int × Int)) (hn : n ≤ 8) (hz : (alE t 0 0 != 0) = false) (m : Nat) (hm : m < n) (hp : Hid (∀ j, j < m → wrB t l j = false)) (hq : wrB t l m = true) (w : World) (HT0 : Hid (Pts w tv t)) (NV0 : Hid (Pts w (.slice a n cap) l)) :
    Calls Try.prog 37 #[tv, .slice a n cap] w fun e w' => e = .returned (.tuple #[.agg #[.int .i64 0, .int .i64 0], .int .i64 1]) ∧ Below w.heap.size w w' := by
  have q : decide (8 < (n : Int)) = false := decide_eq_false (by omega)
  have T0 := Lib.hid (Two.new w (.int .i64 0) (.int .i64 0) 24)
  have X := Lib.hid (bel_alloc (w := w) (o := .cells #[.int .i64 0, .int .i64 0] 24) (Below.refl _ _))
  have HG := Lib.hid (fun W h => rlChk_any tv t 0 0 W h)
  generalize alE t 0 0 = E0 at *
  go_enter Try.func37, Try.ntmps37
  go_wp2_with fail
  refine (HG.out _ (HT0.out.alloc _)).mono ?_
  rintro e w1 ⟨rfl, h1⟩
  replace T0 := Lib.hid (T0.out.below h1)
  replace X := Lib.hid (bel_trans X.out h1); clear h1
  go_wp2_with fail
  go_loopw [6] (fun i wr => ∃ k : Nat, k ≤ m ∧ i = .int .i64 k ∧ Hid (Below w.heap.size w wr) ∧ Hid (Two w.heap.size wr (.int .i64 0) (.int .i64 0))) (fun i _ => n - (intOf i).toNat)
  case atStart => exact ⟨0, Nat.zero_le _, rfl, X, T0⟩
  case round =>
    clear X T0
    obtain ⟨k, hk, rfl, X, T0⟩ := hrel
    have NV := Lib.hid (NV0.out.below X.out)
    have HT := Lib.hid (HT0.out.below X.out)
    by_cases hlt : k < m
    · have HP := Lib.hid (fun W h => rlChk_any tv t (gX l k) (gR l k) W h)
      have h0 := hp.out k hlt
      have l9 : (k : Int) < (n : Int) := by omega
      obtain ⟨b, off, rfl, hb, hc⟩ := NV.out.at (by omega)
      obtain ⟨c0, c1⟩ := hc k (by omega)
      clear hc
      unfold wrB at h0
      generalize alE t (gX l k) (gR l k) = E at *
      generalize gX l k = x at *
      generalize gR l k = y at *
      go_wp2_with fail
      refine (HP.out _ HT.out).mono ?_
      rintro e w3 ⟨rfl, hb⟩
      replace X := Lib.hid (bel_trans X.out hb)
      replace T0 := Lib.hid (T0.out.below hb)
      clear hb
      go_wp2
      go_roundw
      case rel => exact ⟨k + 1, by omega, by go_num, X, T0⟩
      case measure => simp [intOf]; omega
    · obtain rfl : k = m := by omega
      have HP := Lib.hid (fun W h => rlChk_any tv t (gX l k) (gR l k) W h)
      have l9 : (k : Int) < (n : Int) := by omega
      obtain ⟨b, off, rfl, hb, hc⟩ := NV.out.at (by omega)
      obtain ⟨c0, c1⟩ := hc k (by omega)
      clear hc hp
      unfold wrB at hq
      generalize alE t (gX l k) (gR l k) = E at *
      generalize gX l k = x at *
      generalize gR l k = y at *
      go_wp2_with fail
      refine (HP.out _ HT.out).mono ?_
      rintro e w3 ⟨rfl, hb⟩
      replace X := Lib.hid (bel_trans X.out hb)
      replace T0 := Lib.hid (T0.out.below hb)
      clear hb
      obtain ⟨z0, z1, z2, z3, z4⟩ := T0.out
      go_wp2
      obtain ⟨r0, r1⟩ := two_read w3 w.heap.size (.int .i64 0) (.int .i64 0) z0 z1
      refine bodyPost_ret (v := .tuple #[.agg #[.int .i64 0, .int .i64 0], .int .i64 1]) (by simp [results, Try.results37, go_sem, r0, r1]) rfl ?_
      exact ⟨rfl, (X.out.setCell (Nat.le_refl _) _).setCell (Nat.le_refl _) _⟩
set_option maxHeartbeats 16000000 in
set_option maxRecDepth 100000 in
theorem rxAs_sum (tv : Value) (t : List (Int × Int)) (a : Option Addr) (n cap : Nat) (l : List (Int × Int)) (hn : n ≤ 8) (hz : (alE t 0 0 != 0) = false) (hp : Hid (∀ j, j < n → wrB t l j = false)) (A M E : Int) (HS : Hid (∀ W, Pts W (.slice a n cap) l → Calls Try.prog 12 #[.slice a n cap] W fun e w' => e = .returned (.tuple #[.agg #[.int .i64 A, .int .i64 M], .int .i64 E]) ∧ Below W.heap.size W w')) (w : World) (HT0 : Hid (Pts w tv t)) (NV0 : Hid (Pts w (.slice a n cap) l)) :
    Calls Try.prog 37 #[tv, .slice a n cap] w fun e w' => e = .returned (.tuple #[.agg #[.int .i64 A, .int .i64 M], .int .i64 E]) ∧ Below w.heap.size w w' := by
  have q : decide (8 < (n : Int)) = false := decide_eq_false (by omega)
  have T0 := Lib.hid (Two.new w (.int .i64 0) (.int .i64 0) 24)
  have X := Lib.hid (bel_alloc (w := w) (o := .cells #[.int .i64 0, .int .i64 0] 24) (Below.refl _ _))
  have HG := Lib.hid (fun W h => rlChk_any tv t 0 0 W h)
  generalize alE t 0 0 = E0 at *
  go_enter Try.func37, Try.ntmps37
  go_wp2_with fail
  refine (HG.out _ (HT0.out.alloc _)).mono ?_
  rintro e w1 ⟨rfl, h1⟩
  replace T0 := Lib.hid (T0.out.below h1)
  replace X := Lib.hid (bel_trans X.out h1); clear h1
  go_wp2_with fail
  go_loopw [6] (fun i wr => ∃ k : Nat, k ≤ n ∧ i = .int .i64 k ∧ Hid (Below w.heap.size w wr) ∧ Hid (Two w.heap.size wr (.int .i64 0) (.int .i64 0))) (fun i _ => n - (intOf i).toNat)
  case atStart => exact ⟨0, Nat.zero_le _, rfl, X, T0⟩
  case round =>
    clear X T0
    obtain ⟨k, hk, rfl, X, T0⟩ := hrel
    have NV := Lib.hid (NV0.out.below X.out)
    have HT := Lib.hid (HT0.out.below X.out)
    by_cases hlt : k < n
    · have HP := Lib.hid (fun W h => rlChk_any tv t (gX l k) (gR l k) W h)
      have h0 := hp.out k hlt
      have l9 : (k : Int) < (n : Int) := by omega
      obtain ⟨b, off, rfl, hb, hc⟩ := NV.out.at (by omega)
      obtain ⟨c0, c1⟩ := hc k (by omega)
      clear hc
      unfold wrB at h0
      generalize alE t (gX l k) (gR l k) = E at *
      generalize gX l k = x at *
      generalize gR l k = y at *
      go_wp2_with fail
      refine (HP.out _ HT.out).mono ?_
      rintro e w3 ⟨rfl, hb⟩
      replace X := Lib.hid (bel_trans X.out hb)
      replace T0 := Lib.hid (T0.out.below hb)
      clear hb
      go_wp2
      go_roundw
      case rel => exact ⟨k + 1, by omega, by go_num, X, T0⟩
      case measure => simp [intOf]; omega
    · obtain rfl : k = n := by omega
      go_wp2_with fail
      refine (HS.out _ NV.out).mono ?_
      rintro e w3 ⟨rfl, hb⟩
      replace X := Lib.hid (bel_trans X.out hb)
      replace T0 := Lib.hid (T0.out.below hb)
      clear hb
      obtain ⟨z0, z1, z2, z3, z4⟩ := T0.out
      go_wp2
      obtain ⟨r0, r1⟩ := two_read w3 w.heap.size (.int .i64 A) (.int .i64 M) z0 z1
      refine bodyPost_ret (v := .tuple #[.agg #[.int .i64 A, .int .i64 M], .int .i64 E]) (by simp [results, Try.results37, go_sem, r0, r1]) rfl ?_
      exact ⟨rfl, (X.out.setCell (Nat.le_refl _) _).setCell (Nat.le_refl _) _⟩
theorem first_wrong {t l : List (Int × Int)} (h : ∃ j, j < l.length ∧ wrB t l j = true) : ∃ k, k < l.length ∧ wrB t l k = true ∧ ∀ j, j < k → wrB t l j = false := by
  obtain ⟨s1, s2⟩ := fst_spec (wrB t l) l.length
  have le := fst_le (wrB t l) l.length
  obtain ⟨j, hj, e⟩ := h
  have : fst (wrB t l) l.length < l.length := by
    rcases Nat.lt_or_ge (fst (wrB t l) l.length) l.length with g | g
    · exact g
    · have := s1 j (by omega); rw [e] at this; cases this
  exact ⟨_, this, s2 this, s1⟩
theorem rxAs_any (tv v : Value) (t l : List (Int × Int)) (w : World) (ht : Pts w tv t) (hv : Pts w v l) :
    Calls Try.prog 37 #[tv, v] w fun e w' => e = .returned (.tuple #[.agg #[.int .i64 (riA t l), .int .i64 (riM t l)], .int .i64 (riE t l)]) ∧ Below w.heap.size w w' := by
  obtain ⟨a, cap, rfl, hcap, hh⟩ := id hv
  unfold riA riM
  by_cases h : 8 < l.length
  · have e : riE t l = 8 := by unfold riE; rw [if_pos h]
    rw [e]; exact rxAs_long tv a _ cap w h (by omega)
  · by_cases hd : dnE t = 0
    · have hz : (alE t 0 0 != 0) = false := by simpa using alE_dry.2 hd
      by_cases hj : ∃ j, j < l.length ∧ wrB t l j = true
      · have e : riE t l = 1 := by unfold riE; rw [if_neg h, if_pos (.inr hj)]
        obtain ⟨k, hk, h1, h2⟩ := first_wrong hj
        rw [e]; exact rxAs_bad tv t a _ cap l (by omega) hz k hk h2 h1 w ht hv
      · have e : riE t l = suE l := by unfold riE; rw [if_neg h, if_neg (fun g => g.elim (fun g => g hd) hj)]
        have := rxAs_sum tv t a _ cap l (by omega) hz (Lib.hid fun j hj2 => by
          cases g : wrB t l j with
          | true => exact absurd ⟨j, hj2, g⟩ hj
          | false => rfl) (suA l) (suM l) (suE l) (Lib.hid fun W hW => rxSu_any _ l W hW) w ht hv
        rw [e]
        unfold suA suM at this
        exact this
    · have e : riE t l = 1 := by unfold riE; rw [if_neg h, if_pos (.inl hd)]
      rw [e]; exact rxAs_table tv t a _ cap l (by omega) (by simpa using fun g => hd (alE_dry.1 g)) w ht hv
set_option maxHeartbeats 8000000 in
set_option maxRecDepth 100000 in
theorem rxCo_err (tv v : Value) (E : Int) (w : World) (hE : (E != 0) = true)
    (HR : Hid (Calls Try.prog 37 #[tv, v] w fun e w' => e = .returned (.tuple #[.agg #[.int .i64 0, .int .i64 0], .int .i64 E]) ∧ Below w.heap.size w w')) :
    Calls Try.prog 20 #[tv, v] w fun e w' => e = .returned (.tuple #[.int .i64 0, .int .i64 E]) ∧ Below w.heap.size w w' := by
  go_enter Try.func20, Try.ntmps20
  go_wp2_with fail
  refine HR.out.mono ?_
  rintro e w1 ⟨rfl, h1⟩
  have X := Lib.hid (bel_trans h1 (bel_alloc (o := .cells #[.int .i64 0, .int .i64 0] 24) (Below.refl _ _))); clear h1
  go_wp2
  go_returns
  exact ⟨rfl, X.out⟩
set_option maxHeartbeats 16000000 in
set_option maxRecDepth 100000 in
theorem rxCo_ok (tv : Value) (t : List (Int × Int)) (a : Option Addr) (n cap : Nat) (l : List (Int × Int)) (hn : n ≤ 8) (hl : Hid (l.length = n)) (A M S SA : Int) (hS : 0 ≤ S ∧ S ≤ 2576980377) (HR : Hid (∀ W, Pts W tv t → Pts W (.slice a n cap) l → Calls Try.prog 37 #[tv, .slice a n cap] W fun e w' => e = .returned (.tuple #[.agg #[.int .i64 A, .int .i64 M], .int .i64 0]) ∧ Below W.heap.size W w'))
    (HS : Hid (∀ W, Pts W tv t → Calls Try.prog 38 #[tv, .agg #[.int .i64 A, .int .i64 M]] W fun e w' => e = .returned (.int .i64 S) ∧ Below W.heap.size W w'))
    (HV : Hid (∀ k, k < n → ∀ W, Pts W tv t → Calls Try.prog 38 #[tv, .agg #[.int .i64 (gX l k), .int .i64 (gR l k)]] W fun e w' => e = .returned (.int .i64 (vlV t (gX l k) (gR l k))) ∧ Below W.heap.size W w'))
    (hv : Hid (∀ k, k < n → 0 ≤ vlV t (gX l k) (gR l k) ∧ vlV t (gX l k) (gR l k) ≤ 2576980377)) (hb : Hid (∀ k, 0 ≤ sm (vlV t) (l.take k) ∧ sm (vlV t) (l.take k) ≤ 20615843016)) (hA : Hid (sm (vlV t) (l.take n) = SA)) (w : World) (HT0 : Hid (Pts w tv t)) (NV0 : Hid (Pts w (.slice a n cap) l)) :
    Calls Try.prog 20 #[tv, .slice a n cap] w fun e w' => e = .returned (.tuple #[.int .i64 (SA - S), .int .i64 0]) ∧ Below w.heap.size w w' := by
  go_enter Try.func20, Try.ntmps20
  go_wp2_with fail
  refine (HR.out _ HT0.out NV0.out).mono ?_
  rintro e w1 ⟨rfl, h1⟩
  have X := Lib.hid (bel_trans h1 (bel_alloc (o := .cells #[.int .i64 A, .int .i64 M] 24) (Below.refl _ _)))
  have P0 := Lib.hid (Two.new w1 (.int .i64 A) (.int .i64 M) 24)
  clear h1 HR
  go_wp2_with fail
  generalize w1.heap.size = g at *
  go_loopw [8, 9] (fun s i wr => ∃ k : Nat, k ≤ n ∧ i = .int .i64 k ∧ s = .int .i64 (sm (vlV t) (l.take k)) ∧ Hid (Below w.heap.size w wr) ∧ Hid (Two g wr (.int .i64 A) (.int .i64 M))) (fun _ i _ => n - (intOf i).toNat)
  case atStart => exact ⟨0, Nat.zero_le _, rfl, rfl, X, P0⟩
  case round =>
    clear X P0
    obtain ⟨k, hk, rfl, rfl, X, P0⟩ := hrel
    have NV := Lib.hid (NV0.out.below X.out)
    have HT := Lib.hid (HT0.out.below X.out)
    by_cases hlt : k < n
    · have l9 : (k : Int) < (n : Int) := by omega
      have hs := Lib.hid (sm_step (vlV t) l k (by rw [hl.out]; exact hlt))
      have b1 := hb.out k
      have b2 := hv.out k hlt
      have HVk := Lib.hid (HV.out k hlt)
      obtain ⟨b, off, rfl, hb, hc⟩ := NV.out.at (by omega)
      obtain ⟨c0, c1⟩ := hc k hlt
      clear hc
      generalize vlV t (gX l k) (gR l k) = V at *
      generalize gX l k = x at *
      generalize gR l k = y at *
      generalize sm (vlV t) (l.take k) = SK at *
      have w1 : IntKind.i64.wrap (SK + V) = SK + V := wrap_in _ ⟨by omega, by omega⟩
      go_wp2_with fail
      refine (HVk.out _ HT.out).mono ?_
      rintro e w3 ⟨rfl, h1⟩
      replace X := Lib.hid (bel_trans X.out h1)
      replace P0 := Lib.hid (P0.out.below h1)
      clear h1
      go_wp2
      go_roundw
      case rel => exact ⟨k + 1, by omega, by go_num, by rw [hs.out], X, P0⟩
      case measure => simp [intOf]; omega
    · obtain rfl : k = n := by omega
      have b1 := hb.out k
      rw [hA.out] at b1
      rw [hA.out]
      have w1 : IntKind.i64.wrap (SA - S) = SA - S := wrap_in _ ⟨by omega, by omega⟩
      obtain ⟨p0, p1, _, _, _⟩ := P0.out
      go_wp2_with fail
      refine (HS.out _ HT.out).mono ?_
      rintro e w3 ⟨rfl, h1⟩
      replace X := Lib.hid (bel_trans X.out h1)
      clear h1
      go_wp2
      go_returns
      exact ⟨rfl, X.out⟩
theorem rxCo_any (tv v : Value) (t l : List (Int × Int)) (w : World) (ht : Pts w tv t) (hv : Pts w v l) :
    Calls Try.prog 20 #[tv, v] w fun e w' => e = .returned (.tuple #[.int .i64 (coV t l), .int .i64 (riE t l)]) ∧ Below w.heap.size w w' := by
  unfold coV
  by_cases h : riE t l = 0
  · obtain ⟨hn, hD, hL, _⟩ := riE_zero.1 h
    obtain ⟨a, cap, rfl, hcap, hh⟩ := id hv
    have R := fun W h1 h2 => rxAs_any tv (.slice a l.length cap) t l W h1 h2
    unfold riA riM at R
    rw [h] at R ⊢
    exact rxCo_ok tv t a _ cap l hn rfl _ _ _ _ (vlV_ok hD (mix_right h)).2 (Lib.hid R) (Lib.hid fun W hW => by rw [(vlV_ok hD (mix_right h)).1]; exact rlSz_any tv t _ _ W hW hD (mix_right h)) (Lib.hid fun k hk W hW => by rw [(vlV_ok hD (hL k hk)).1]; exact rlSz_any tv t _ _ W hW hD (hL k hk)) (Lib.hid fun k hk => (vlV_ok hD (hL k hk)).2) (Lib.hid fun k => by have := vol_bd h k; omega) (by show _ = _; rw [sm_full]) w ht hv
  · have R' := rxAs_any tv v t l w ht hv
    unfold riA riM at R'
    rw [if_neg h, if_neg h] at R'
    rw [if_neg h]
    exact rxCo_err tv v _ w (by rw [bne_iff_ne]; exact h) R'
end Go.Proofs.Ytfkcgdnpfngdkaa

namespace Go.Proofs.Ytfkcgdnpfngdkaa
open Go.RowKit

set_option maxHeartbeats 32000000 in
set_option maxRecDepth 100000 in
theorem rxBe_err (tv : Value) (a : Option Addr) (n cap : Nat) (t l : List (Int × Int)) (w : World) (HT0 : Hid (Pts w tv t)) (NV0 : Hid (Pts w (.slice a n cap) l)) (E : Int) (hE : (E != 0) = true) (HR : Hid (∀ W, Pts W tv t → Pts W (.slice a n cap) l → Calls Try.prog 37 #[tv, .slice a n cap] W fun e w' => e = .returned (.tuple #[.agg #[.int .i64 0, .int .i64 0], .int .i64 E]) ∧ Below W.heap.size W w')) :
    Calls Try.prog 22 #[tv, .slice a n cap] w fun e w' => e = .returned (.tuple #[.agg #[.int .i64 0, .int .i64 0], .int .i64 0, .int .i64 E]) ∧ Below w.heap.size w w' := by
  have T0 := Lib.hid (Two.new w (.int .i64 0) (.int .i64 0) 41)
  have X := Lib.hid (bel_alloc (w := w) (o := .cells #[.int .i64 0, .int .i64 0] 41) (Below.refl _ _))
  go_enter Try.func22, Try.ntmps22
  go_wp2_with fail
  refine (HR.out _ (HT0.out.alloc _) (NV0.out.alloc _)).mono ?_
  rintro e w1 ⟨rfl, h1⟩
  have n1 : w.heap.size < w1.heap.size := by have := h1.size; rw [World.size_alloc] at this; omega
  have P7 := Lib.hid (Two.new w1 (.int .i64 0) (.int .i64 0) 24)
  replace X := Lib.hid (bel_trans (bel_trans X.out h1) (bel_alloc (o := .cells #[.int .i64 0, .int .i64 0] 24) (Below.refl _ _)))
  replace T0 := Lib.hid ((T0.out.below h1).alloc (.cells #[.int .i64 0, .int .i64 0] 24))
  clear h1
  clear n1
  go_upto_region 2 with fail
  generalize w1.alloc (.cells #[.int .i64 0, .int .i64 0] 24) = W1 at *
  obtain ⟨z0, z1, z2, z3, z4⟩ := T0.out
  go_wp2
  obtain ⟨r0, r1⟩ := two_read W1 w.heap.size (.int .i64 0) (.int .i64 0) z0 z1
  refine bodyPost_ret (v := .tuple #[.agg #[.int .i64 0, .int .i64 0], .int .i64 0, .int .i64 E]) (by simp [results, Try.results22, go_sem, r0, r1]) rfl ?_
  exact ⟨rfl, (X.out.setCell (Nat.le_refl _) _).setCell (Nat.le_refl _) _⟩
set_option maxHeartbeats 32000000 in
set_option maxRecDepth 100000 in
theorem rxBe_dry (tv : Value) (a : Option Addr) (n cap : Nat) (t l : List (Int × Int)) (w : World) (HT0 : Hid (Pts w tv t)) (NV0 : Hid (Pts w (.slice a n cap) l)) (A M : Int) (hM : (M == 0) = true) (HR : Hid (∀ W, Pts W tv t → Pts W (.slice a n cap) l → Calls Try.prog 37 #[tv, .slice a n cap] W fun e w' => e = .returned (.tuple #[.agg #[.int .i64 A, .int .i64 M], .int .i64 0]) ∧ Below W.heap.size W w')) :
    Calls Try.prog 22 #[tv, .slice a n cap] w fun e w' => e = .returned (.tuple #[.agg #[.int .i64 0, .int .i64 0], .int .i64 0, .int .i64 9]) ∧ Below w.heap.size w w' := by
  have T0 := Lib.hid (Two.new w (.int .i64 0) (.int .i64 0) 41)
  have X := Lib.hid (bel_alloc (w := w) (o := .cells #[.int .i64 0, .int .i64 0] 41) (Below.refl _ _))
  go_enter Try.func22, Try.ntmps22
  go_wp2_with fail
  refine (HR.out _ (HT0.out.alloc _) (NV0.out.alloc _)).mono ?_
  rintro e w1 ⟨rfl, h1⟩
  have n1 : w.heap.size < w1.heap.size := by have := h1.size; rw [World.size_alloc] at this; omega
  have P7 := Lib.hid (Two.new w1 (.int .i64 A) (.int .i64 M) 24)
  replace X := Lib.hid (bel_trans (bel_trans X.out h1) (bel_alloc (o := .cells #[.int .i64 A, .int .i64 M] 24) (Below.refl _ _)))
  replace T0 := Lib.hid ((T0.out.below h1).alloc (.cells #[.int .i64 A, .int .i64 M] 24))
  clear h1
  clear n1
  go_upto_region 2 with fail
  generalize w1.alloc (.cells #[.int .i64 A, .int .i64 M] 24) = W1 at *
  obtain ⟨z0, z1, z2, z3, z4⟩ := T0.out
  obtain ⟨p0, p1, _, _, _⟩ := P7.out
  go_wp2
  obtain ⟨r0, r1⟩ := two_read W1 w.heap.size (.int .i64 0) (.int .i64 0) z0 z1
  refine bodyPost_ret (v := .tuple #[.agg #[.int .i64 0, .int .i64 0], .int .i64 0, .int .i64 9]) (by simp [results, Try.results22, go_sem, r0, r1]) rfl ?_
  exact ⟨rfl, (X.out.setCell (Nat.le_refl _) _).setCell (Nat.le_refl _) _⟩
set_option maxHeartbeats 32000000 in
set_option maxRecDepth 100000 in
theorem rxBe_ok (tv : Value) (a : Option Addr) (n cap : Nat) (t l : List (Int × Int)) (w : World) (HT0 : Hid (Pts w tv t)) (NV0 : Hid (Pts w (.slice a n cap) l)) (hl : Hid (l.length = n)) (hn : n ≤ 8) (A M S LO HI : Int) (hM : (M == 0) = false) (HR : Hid (∀ W, Pts W tv t → Pts W (.slice a n cap) l → Calls Try.prog 37 #[tv, .slice a n cap] W fun e w' => e = .returned (.tuple #[.agg #[.int .i64 A, .int .i64 M], .int .i64 0]) ∧ Below W.heap.size W w'))
    (HS : Hid (∀ W, Pts W tv t → Calls Try.prog 39 #[tv, .agg #[.int .i64 A, .int .i64 M]] W fun e w' => e = .returned (.int .i64 S) ∧ Below W.heap.size W w'))
    (HG : Hid (∀ k, k < n → ∀ W, Pts W tv t → Calls Try.prog 39 #[tv, .agg #[.int .i64 (gX l k), .int .i64 (gR l k)]] W fun e w' => e = .returned (.int .i64 (sgV t (gX l k) (gR l k))) ∧ Below W.heap.size W w'))
    (hlo : Hid (loB t l n = LO)) (hhi : Hid (hiB t l n = HI)) :
    Calls Try.prog 22 #[tv, .slice a n cap] w fun e w' => e = .returned (.tuple #[.agg #[.int .i64 LO, .int .i64 HI], .int .i64 S, .int .i64 0]) ∧ Below w.heap.size w w' := by
  have T0 := Lib.hid (Two.new w (.int .i64 0) (.int .i64 0) 41)
  have X := Lib.hid (bel_alloc (w := w) (o := .cells #[.int .i64 0, .int .i64 0] 41) (Below.refl _ _))
  go_enter Try.func22, Try.ntmps22
  go_wp2_with fail
  refine (HR.out _ (HT0.out.alloc _) (NV0.out.alloc _)).mono ?_
  rintro e w1 ⟨rfl, h1⟩
  have n1 : w.heap.size < w1.heap.size := by have := h1.size; rw [World.size_alloc] at this; omega
  have P7 := Lib.hid (Two.new w1 (.int .i64 A) (.int .i64 M) 24)
  replace X := Lib.hid (bel_trans (bel_trans X.out h1) (bel_alloc (o := .cells #[.int .i64 A, .int .i64 M] 24) (Below.refl _ _)))
  replace T0 := Lib.hid ((T0.out.below h1).alloc (.cells #[.int .i64 A, .int .i64 M] 24))
  clear h1
  obtain ⟨p0, p1, _, _, _⟩ := P7.out
  have P9 : Hid (Two (w1.heap.size + 1) ((w1.alloc (.cells #[.int .i64 A, .int .i64 M] 24)).alloc (.cells #[.int .i64 10000, .int .i64 0] 41)) (.int .i64 (loB t l 0)) (.int .i64 (hiB t l 0))) := Lib.hid (two_new1 w1 (.cells #[.int .i64 A, .int .i64 M] 24) (.int .i64 10000) (.int .i64 0) 41)
  replace P7 := Lib.hid (P7.out.alloc (.cells #[.int .i64 10000, .int .i64 0] 41))
  replace X := Lib.hid (bel_trans X.out (bel_alloc (o := .cells #[.int .i64 10000, .int .i64 0] 41) (Below.refl _ _)))
  replace T0 := Lib.hid (T0.out.alloc (.cells #[.int .i64 10000, .int .i64 0] 41))
  go_wp2_with fail
  clear p0 p1
  generalize w1.heap.size = g at *
  go_loopw [10] (fun i wr => ∃ k : Nat, k ≤ n ∧ i = .int .i64 k ∧ Hid (Below w.heap.size w wr) ∧ Hid (Two w.heap.size wr (.int .i64 0) (.int .i64 0)) ∧ Hid (Two g wr (.int .i64 A) (.int .i64 M)) ∧ Hid (Two (g + 1) wr (.int .i64 (loB t l k)) (.int .i64 (hiB t l k)))) (fun i _ => n - (intOf i).toNat)
  case atStart => exact ⟨0, Nat.zero_le _, rfl, X, T0, P7, P9⟩
  case round =>
    clear X T0 P7 P9
    obtain ⟨k, hk, rfl, X, T0, P7, P9⟩ := hrel
    have ht := Lib.hid (HT0.out.below X.out)
    have NV := Lib.hid (NV0.out.below X.out)
    by_cases hlt : k < n
    · have l9 : (k : Int) < (n : Int) := by omega
      have sl : loB t l (k + 1) = if 0 < gR l k then min (loB t l k) (sgV t (gX l k) (gR l k)) else loB t l k := rfl
      have sh : hiB t l (k + 1) = if 0 < gR l k then max (hiB t l k) (sgV t (gX l k) (gR l k)) else hiB t l k := rfl
      have HV := Lib.hid (HG.out k hlt)
      obtain ⟨b, off, rfl, hb, hc⟩ := NV.out.at (by omega)
      obtain ⟨c0, c1⟩ := hc k hlt
      clear hc
      generalize sgV t (gX l k) (gR l k) = V at *
      generalize gX l k = x at *
      generalize gR l k = y at *
      by_cases hy : 0 < y
      · rw [if_pos hy] at sl sh
        replace sl := Lib.hid sl
        replace sh := Lib.hid sh
        have d : decide (0 < y) = true := decide_eq_true hy
        go_wp2_with fail
        refine (HV.out _ ht.out).mono ?_
        rintro e w3 ⟨rfl, h1⟩
        replace X := Lib.hid (bel_trans X.out h1)
        replace T0 := Lib.hid (T0.out.below h1)
        replace P7 := Lib.hid (P7.out.below h1)
        replace P9 := Lib.hid (P9.out.below h1)
        clear h1 c0 c1
        generalize loB t l k = L0 at *
        generalize hiB t l k = H0 at *
        obtain ⟨q0, q1, q2, q3, q4⟩ := P9.out
        have n2 : g + 1 ≠ w.heap.size := by omega
        have n3 : g + 1 ≠ g := by omega
        have n4 : w.heap.size ≤ g + 1 := by omega
        have NT := Lib.hid ((T0.out.other ⟨g + 1, 0, none⟩ n2 (.int .i64 (min L0 V))).other ⟨g + 1, 1, none⟩ n2 (.int .i64 (max H0 V)))
        have N7 := Lib.hid ((P7.out.other ⟨g + 1, 0, none⟩ n3 (.int .i64 (min L0 V))).other ⟨g + 1, 1, none⟩ n3 (.int .i64 (max H0 V)))
        have N9 := Lib.hid ((P9.out.set0 (.int .i64 (min L0 V))).set1 (.int .i64 (max H0 V)))
        have NX := Lib.hid ((X.out.setCell (p := ⟨g + 1, 0, none⟩) n4 (.int .i64 (min L0 V))).setCell (p := ⟨g + 1, 1, none⟩) n4 (.int .i64 (max H0 V)))
        go_wp2
        go_roundw
        case rel => exact ⟨k + 1, by omega, by go_num, NX, NT, N7, by rw [sl.out, sh.out]; exact N9⟩
        case measure => simp [intOf]; omega
      · rw [if_neg hy] at sl sh
        have d : decide (0 < y) = false := decide_eq_false hy
        replace sl := Lib.hid sl
        replace sh := Lib.hid sh
        go_wp2
        go_roundw
        case rel => exact ⟨k + 1, by omega, by go_num, X, T0, P7, by rw [sl.out, sh.out]; exact P9⟩
        case measure => simp [intOf]; omega
    · obtain rfl : k = n := by omega
      rw [hlo.out, hhi.out] at P9
      obtain ⟨p0, p1, _, _, _⟩ := P7.out
      obtain ⟨q0, q1, _, _, _⟩ := P9.out
      go_upto_region 13 with fail
      have XD := Lib.hid (bel_trans X.out (bel_drew wr))
      have TD := Lib.hid (T0.out.below (bel_drew wr))
      have PD := Lib.hid (P9.out.below (bel_drew wr))
      have HT := Lib.hid (ht.out.below (bel_drew wr))
      clear ht NV
      go_region_with (go_at_call 39; refine (HS.out _ HT.out).mono ?_; rintro e w3 ⟨rfl, h1⟩; have X3 := Lib.hid (bel_trans XD.out h1); have T3 := Lib.hid (TD.out.below h1); obtain ⟨s0, s1, s2, s3, s4⟩ := (PD.out.below h1); obtain ⟨z0, z1, z2, z3, z4⟩ := T3.out; clear h1)
      all_goals go_wp2
      all_goals
        obtain ⟨r0, r1⟩ := two_read w3 w.heap.size (.int .i64 LO) (.int .i64 HI) z0 z1
        refine bodyPost_ret (v := .tuple #[.agg #[.int .i64 LO, .int .i64 HI], .int .i64 S, .int .i64 0]) (by simp [results, Try.results22, go_sem, r0, r1]) rfl ?_
        exact ⟨rfl, (X3.out.setCell (Nat.le_refl _) _).setCell (Nat.le_refl _) _⟩
theorem rxBe_any (tv v : Value) (t l : List (Int × Int)) (w : World) (ht : Pts w tv t) (hv : Pts w v l) :
    Calls Try.prog 22 #[tv, v] w fun e w' => e = .returned (.tuple #[.agg #[.int .i64 (beL t l), .int .i64 (beH t l)], .int .i64 (beS t l), .int .i64 (beE t l)]) ∧ Below w.heap.size w w' := by
  obtain ⟨a, cap, rfl, hcap, hh⟩ := id hv
  have R := Lib.hid (fun W h1 h2 => rxAs_any tv (.slice a l.length cap) t l W h1 h2)
  unfold beL beH beS
  by_cases h : riE t l = 0
  · unfold riA riM at R
    rw [h] at R
    obtain ⟨hn, hD, hL, _⟩ := riE_zero.1 h
    by_cases hM : sm fM l = 0
    · have e : beE t l = 9 := by unfold beE; rw [if_neg (by omega), if_pos hM]
      rw [e]
      exact rxBe_dry tv a _ cap t l w ht hv _ _ (by simpa using hM) R
    · have e : beE t l = 0 := by unfold beE; rw [if_neg (by omega), if_neg hM]
      rw [e]
      exact rxBe_ok tv a _ cap t l w ht hv rfl hn _ _ _ _ _ (by simpa using hM) R (Lib.hid fun W hW => by rw [(sgV_ok hD (mix_right h)).1]; exact rlGr_any tv t _ _ W hW hD (mix_right h)) (Lib.hid fun k hk W hW => by rw [(sgV_ok hD (hL k hk)).1]; exact rlGr_any tv t _ _ W hW hD (hL k hk)) rfl rfl
  · have e : beE t l = riE t l := by unfold beE; rw [if_pos h]
    unfold riA riM at R
    rw [if_neg h, if_neg h] at R
    rw [e, if_neg h, if_neg h, if_neg h]
    exact rxBe_err tv a _ cap t l w ht hv _ (by rw [bne_iff_ne]; exact h) R
end Go.Proofs.Ytfkcgdnpfngdkaa

namespace Go.Proofs.Ytfkcgdnpfngdkaa.mixContracts
open Go.ChangeShapes Go.WideShapes Go.ChangeAt Go.RowKit
open Go.ChangeMaps (open_string shut_string)
set_option linter.unusedVariables false

set_option maxHeartbeats 16000000 in
set_option maxRecDepth 100000 in
theorem long1 (a : Option Addr) (n cap : Nat) (b : Option Addr) (m cap2 : Nat) (t l : List (Int × Int)) (w : World) (NV : Hid (Pts w (.slice a n cap) t)) (LV : Hid (Pts w (.slice b m cap2) l)) (hf : fwB t.length = false) :
    Calls Try.prog 4 #[.slice a n cap, .slice b m cap2] w fun e w' => e = .returned (.bool true) ∧ Below w.heap.size w w' := by
  have HA := Lib.hid (fun W => awakeM_any W)
  have FW := Lib.hid (fun v W h => few_any v t W h)
  rw [hf] at FW
  have HB := Lib.hid (Below.refl w.heap.size w)
  go_enter Try.func4, Try.ntmps4
  go_wp2_with fail
  refine (HA.out _).mono ?_
  rintro e w3 ⟨rfl, h1⟩
  replace NV := Lib.hid (NV.out.below h1)
  replace LV := Lib.hid (LV.out.below h1)
  replace HB := Lib.hid (bel_trans HB.out h1); clear h1
  go_wp2_with fail
  refine (FW.out _ _ NV.out).mono ?_
  rintro e w90 ⟨rfl, hw⟩
  subst hw
  go_wp2
  go_returns
  exact ⟨rfl, HB.out⟩
set_option maxHeartbeats 16000000 in
set_option maxRecDepth 100000 in
theorem long2 (a : Option Addr) (n cap : Nat) (b : Option Addr) (m cap2 : Nat) (t l : List (Int × Int)) (w : World) (NV : Hid (Pts w (.slice a n cap) t)) (LV : Hid (Pts w (.slice b m cap2) l)) (hf : fwB t.length = true) (d : decide (12 < (m : Int)) = true) :
    Calls Try.prog 4 #[.slice a n cap, .slice b m cap2] w fun e w' => e = .returned (.bool true) ∧ Below w.heap.size w w' := by
  have HA := Lib.hid (fun W => awakeM_any W)
  have FW := Lib.hid (fun v W h => few_any v t W h)
  rw [hf] at FW
  have HB := Lib.hid (Below.refl w.heap.size w)
  go_enter Try.func4, Try.ntmps4
  go_wp2_with fail
  refine (HA.out _).mono ?_
  rintro e w6 ⟨rfl, h1⟩
  replace NV := Lib.hid (NV.out.below h1)
  replace LV := Lib.hid (LV.out.below h1)
  replace HB := Lib.hid (bel_trans HB.out h1); clear h1
  go_wp2_with fail
  refine (FW.out _ _ NV.out).mono ?_
  rintro e w90 ⟨rfl, hw⟩
  subst hw
  go_wp2
  go_returns
  exact ⟨rfl, HB.out⟩
set_option maxHeartbeats 16000000 in
set_option maxRecDepth 100000 in
theorem good (a : Option Addr) (n cap : Nat) (b : Option Addr) (m cap2 : Nat) (t l : List (Int × Int)) (V E LO HI S F : Int) (w : World) (NV : Hid (Pts w (.slice a n cap) t)) (LV : Hid (Pts w (.slice b m cap2) l)) (hf : fwB t.length = true) (d : decide (12 < (m : Int)) = false) (C1 : Hid (∀ W, Pts W (.slice a n cap) t → Pts W (.slice b m cap2) l → Calls Try.prog 19 #[.slice a n cap, .slice b m cap2] W fun e w' => e = .returned (.tuple #[.int .i64 V, .int .i64 E]) ∧ Below W.heap.size W w')) (C2 : Hid (∀ W, Pts W (.slice a n cap) t → Pts W (.slice b m cap2) l → Calls Try.prog 20 #[.slice a n cap, .slice b m cap2] W fun e w' => e = .returned (.tuple #[.int .i64 V, .int .i64 E]) ∧ Below W.heap.size W w')) (C3 : Hid (∀ W, Pts W (.slice a n cap) t → Pts W (.slice b m cap2) l → Calls Try.prog 21 #[.slice a n cap, .slice b m cap2] W fun e w' => e = .returned (.tuple #[.agg #[.int .i64 LO, .int .i64 HI], .int .i64 S, .int .i64 F]) ∧ Below W.heap.size W w')) (C4 : Hid (∀ W, Pts W (.slice a n cap) t → Pts W (.slice b m cap2) l → Calls Try.prog 22 #[.slice a n cap, .slice b m cap2] W fun e w' => e = .returned (.tuple #[.agg #[.int .i64 LO, .int .i64 HI], .int .i64 S, .int .i64 F]) ∧ Below W.heap.size W w')) :
    Calls Try.prog 4 #[.slice a n cap, .slice b m cap2] w fun e w' => e = .returned (.bool true) ∧ Below w.heap.size w w' := by
  have qz : ∀ W, (binOp .eql 41 (.agg #[.int .i64 LO, .int .i64 HI]) (.agg #[.int .i64 LO, .int .i64 HI])).run Try.prog W = .ok (.bool true) W := fun W => by rw [run_eql_bounds]; simp [samP, samB]
  have HA := Lib.hid (fun W => awakeM_any W)
  have FW := Lib.hid (fun v W h => few_any v t W h)
  rw [hf] at FW
  have HB := Lib.hid (Below.refl w.heap.size w)
  go_enter Try.func4, Try.ntmps4
  go_wp2_with fail
  refine (HA.out _).mono ?_
  rintro e w9 ⟨rfl, h1⟩
  replace NV := Lib.hid (NV.out.below h1)
  replace LV := Lib.hid (LV.out.below h1)
  replace HB := Lib.hid (bel_trans HB.out h1); clear h1
  go_wp2_with fail
  refine (FW.out _ _ NV.out).mono ?_
  rintro e w90 ⟨rfl, hw⟩
  subst hw
  go_wp2_with fail
  refine (C1.out _ NV.out LV.out).mono ?_
  rintro e w10 ⟨rfl, h1⟩
  replace NV := Lib.hid (NV.out.below h1)
  replace LV := Lib.hid (LV.out.below h1)
  replace HB := Lib.hid (bel_trans HB.out h1); clear h1
  go_wp2_with fail
  refine (C2.out _ NV.out LV.out).mono ?_
  rintro e w11 ⟨rfl, h1⟩
  replace NV := Lib.hid (NV.out.below h1)
  replace LV := Lib.hid (LV.out.below h1)
  replace HB := Lib.hid (bel_trans HB.out h1); clear h1
  go_wp2_with fail
  refine (C3.out _ NV.out LV.out).mono ?_
  rintro e w12 ⟨rfl, h1⟩
  replace NV := Lib.hid (NV.out.below h1)
  replace LV := Lib.hid (LV.out.below h1)
  replace HB := Lib.hid (bel_trans HB.out h1); clear h1
  have T5 := Lib.hid (Two.new (w12) (.int .i64 LO) (.int .i64 HI) 41)
  replace NV := Lib.hid (NV.out.alloc (.cells #[.int .i64 LO, .int .i64 HI] 41))
  replace LV := Lib.hid (LV.out.alloc (.cells #[.int .i64 LO, .int .i64 HI] 41))
  replace HB := Lib.hid (bel_trans HB.out (bel_alloc (Below.refl _ ((w12).alloc (.cells #[.int .i64 LO, .int .i64 HI] 41)))))
  go_wp2_with fail
  refine (C4.out _ NV.out LV.out).mono ?_
  rintro e w14 ⟨rfl, h1⟩
  replace NV := Lib.hid (NV.out.below h1)
  replace LV := Lib.hid (LV.out.below h1)
  replace T5 := Lib.hid (T5.out.below h1)
  replace HB := Lib.hid (bel_trans HB.out h1); clear h1
  have T6 := Lib.hid (Two.new (w14) (.int .i64 LO) (.int .i64 HI) 41)
  replace T5 := Lib.hid (T5.out.alloc (.cells #[.int .i64 LO, .int .i64 HI] 41))
  replace HB := Lib.hid (bel_trans HB.out (bel_alloc (Below.refl _ ((w14).alloc (.cells #[.int .i64 LO, .int .i64 HI] 41)))))
  obtain ⟨T50, T51, T52, T53, T54⟩ := T5.out
  obtain ⟨T60, T61, T62, T63, T64⟩ := T6.out
  go_wp2
  go_returns
  exact ⟨rfl, HB.out⟩
theorem walk (v : Value) (t : List (Int × Int)) (u : Value) (l : List (Int × Int)) (w : World) (hv : Pts w v t) (hu : Pts w u l) :
    Calls Try.prog 4 #[v, u] w fun e w' => e = .returned (.bool true) ∧ Below w.heap.size w w' := by
  obtain ⟨a, cap, rfl, _, _⟩ := id hv
  obtain ⟨b, cap2, rfl, hcl, _⟩ := id hu
  cases hf : fwB t.length with
  | false => exact long1 a _ cap b _ cap2 t l w hv hu hf
  | true =>
    by_cases h8 : 12 < l.length
    · exact long2 a _ cap b _ cap2 t l w hv hu hf (decide_eq_true (by omega))
    · exact good a _ cap b _ cap2 t l _ _ _ _ _ _ w hv hu hf (decide_eq_false (by omega)) (Lib.hid fun W h g => mxCo_any _ _ t l W h g) (Lib.hid fun W h g => rxCo_any _ _ t l W h g) (Lib.hid fun W h g => mxBe_any _ _ t l W h g) (Lib.hid fun W h g => rxBe_any _ _ t l W h g)

set_option maxRecDepth 100000 in
theorem lifted (os : Os) (started : os.Started) (H : Type) (enc : TypeId × Value → H) :
    ReturnsInHanded {} Try.checked os 4 .any (Rows.mixContractsSpec.pre6 enc Try.prog Try.f4 Rows.mixContractsRow.domain false) (Rows.mixContractsSpec.post enc Try.prog Try.f4 false true false false) := by
  refine returnsInHanded_of_change (C := Try.checked) own started (by kernel_rfl) Try.func4
    (ChangeSpec.witness6 (enc := enc) (C := Try.checked) false ⟨#[], #[.slice none 0 0, .slice none 0 0], []⟩ 8 (by kernel_rfl) (by kernel_rfl) (by kernel_rfl) (by kernel_rfl)) ?_
  intro W base args ds gs before hval0 hW hcnd _
  have hval : ∀ (j : Nat) t v, Try.f4.params[j]? = some t → args[j]? = some v → Value.okWide Try.prog W .any base t v := hval0
  clear hval0
  have hW' := hW
  obtain ⟨p, q, hA0, hV, rfl, hfz, hnd⟩ := hW
  have hA : DataW.TrodAll enc Try.prog W 0 (fun _ => true) true Try.f4.params.toList args.toList ds p := hA0
  rw [Try.params4] at hA hval
  obtain ⟨v0, vs0, d0, ds0, p0, q0, hargs, rfl, rfl, h0, r0⟩ := trodAll_cons hA
  obtain ⟨v1, vs1, d1, ds1, p1, q1, rfl, rfl, rfl, h1, r1⟩ := trodAll_cons r0
  obtain ⟨rfl, rfl, rfl⟩ := trodAll_nil r1
  obtain rfl : args = #[v0, v1] := by cases args; simp_all
  obtain ⟨rfl, rfl⟩ := trodVars_none hV
  have k0 := h0
  have lt0 : ∀ x ∈ p0, x.block < W.heap.size := by obtain ⟨m, hm⟩ := k0; exact DataW.trod_lt m _ _ _ hm
  have k1 := h1
  have lt1 : ∀ x ∈ p1, x.block < W.heap.size := by obtain ⟨m, hm⟩ := k1; exact DataW.trod_lt m _ _ _ hm
  obtain ⟨z0, w0⟩ := open_pts (hval 0 36 v0 rfl rfl) h0
  obtain ⟨z1, w1⟩ := open_lqs (hval 1 22 v1 rfl rfl) h1
  clear hA0
  refine (walk v0 z0 v1 z1 W w0 w1).mono fun e W' ⟨he, bel⟩ => ?_
  subst he
  exact ⟨_, rfl, _, _, _, [], _, [], hW', trodAll_mk1 (shut_bool Try.underlying4 _), (trodAll_cons_mk (Below.trod laidOut (by kernel_rfl) (of_decide_eq_true (by kernel_rfl)) k0 bel lt0) (trodAll_cons_mk (Below.trod laidOut (by kernel_rfl) (of_decide_eq_true (by kernel_rfl)) k1 bel lt1) trodAll_mk0)), rfl, bel.frame _, fun h => by cases h⟩

theorem over : Rows.mixContractsRow.holds Try.pinned (OpenSpec.ofChange Rows.mixContractsSpec) :=
  OpenClaim.holds_of_wide 4 Try.f4 rfl rfl rfl rfl rfl rfl rfl ⟨rfl, rfl, rfl, rfl, rfl⟩ rfl rfl rfl rfl rfl (by kernel_rfl) Try.func4 (by kernel_rfl)
    (of_decide_eq_true (by kernel_rfl)) (by unfold Func.isWrapper; first | (rw [if_pos (by decide +kernel)]; kernel_rfl) | (rw [if_neg (by decide +kernel)]; exact ⟨rfl, rfl⟩))
    (fun os started H enc _ => lifted os started H enc)

theorem proved : Rows.MixContractsSaid := over
#print axioms proved
end Go.Proofs.Ytfkcgdnpfngdkaa.mixContracts
