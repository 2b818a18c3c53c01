/- The reference of layer 8: Radius, ready, At. -/
import Derived.Test.YtlofblpfohnooabPRC
namespace Go.Proofs.Ytlofblpfohnooab
open Go.RowKit

set_option maxHeartbeats 4000000 in
theorem rad_walk (v : Value) (x N D : Int) (w : World) (n0 : 0 ≤ N) (n1 : N ≤ 1000000000000) (d0 : 1 ≤ D) (d1 : D ≤ 100000)
    (H1 : Hid (∀ W, Below w.heap.size w W → Calls Try.prog 47 #[v, .int .i64 x] W fun e w' => e = .returned (.tuple #[.int .i64 N, .int .i64 D]) ∧ Below W.heap.size W w')) :
    Calls Try.prog 38 #[v, .int .i64 x] w fun e w' => e = .returned (.agg #[.int .i64 (N / D), .int .i64 (cdv N D)]) ∧ Below w.heap.size w w' := by
  have q0 : 0 ≤ N / D := Int.ediv_nonneg n0 (by omega)
  have q1 : N / D ≤ N := Int.ediv_le_self _ n0
  have q2 : 0 ≤ (N + D - 1) / D := Int.ediv_nonneg (by omega) (by omega)
  have q3 : (N + D - 1) / D ≤ N + D - 1 := Int.ediv_le_self _ (by omega)
  have t1 : N.tdiv D = N / D := Int.tdiv_eq_ediv_of_nonneg n0
  have t2 : (N + D - 1).tdiv D = (N + D - 1) / D := Int.tdiv_eq_ediv_of_nonneg (by omega)
  have w1 : IntKind.i64.wrap (N / D) = N / D := wrap_in _ ⟨by omega, by omega⟩
  have w2 : IntKind.i64.wrap (N + D) = N + D := wrap_in _ ⟨by omega, by omega⟩
  have w3 : IntKind.i64.wrap (N + D - 1) = N + D - 1 := wrap_in _ ⟨by omega, by omega⟩
  have w4 : IntKind.i64.wrap ((N + D - 1) / D) = (N + D - 1) / D := wrap_in _ ⟨by omega, by omega⟩
  have dz : (D == 0) = false := by rw [beq_eq_false_iff_ne]; omega
  have dz2 : D ≠ 0 := by omega
  have T0 := Lib.hid (Two.new w (.int .i64 0) (.int .i64 0) 33)
  go_enter Try.func38, Try.ntmps38
  go_wp2_with fail
  refine (H1.out _ (bel_alloc (Below.refl _ _))).mono ?_
  rintro e w1' ⟨rfl, gg⟩
  replace T0 := Lib.hid (T0.out.below gg)
  have X1 := Lib.hid (bel_alloc gg); clear gg
  go_wp2_with fail
  go_still_tail 10, (by kernel_rfl)
  change wpList _ _ _ _ _ w1'.drew
  replace T0 := Lib.hid (T0.out.below (bel_drew w1'))
  replace X1 := Lib.hid (bel_trans X1.out (bel_drew w1'))
  generalize w1'.drew = wq at *
  obtain ⟨z0, z1, f0, f1, hlt⟩ := T0.out
  go_wp2
  obtain ⟨t0, t1⟩ := two_read wq w.heap.size (.int .i64 (N / D)) (.int .i64 ((N + D - 1) / D)) z0 z1
  refine bodyPost_ret (v := .agg #[.int .i64 (N / D), .int .i64 ((N + D - 1) / D)]) (by simp [results, Try.results38, go_sem, t0, t1]) rfl ?_
  exact ⟨rfl, (X1.out.setCell (Nat.le_refl _) _).setCell (Nat.le_refl _) _⟩
theorem radius_of {v : Value} {l : List (Int × Int)} {w : World} (hv : Pts w v l) (h : RP l) (x : Int) (x0 : 0 ≤ x) (x1 : x ≤ gX l (l.length - 1)) :
    Calls Try.prog 38 #[v, .int .i64 x] w fun e w' => e = .returned (.agg #[.int .i64 (rdL l x), .int .i64 (rdH l x)]) ∧ Below w.heap.size w w' := by
  have n0 := h.n0
  have n1 := h.n1
  have hi := pc_is n0 x1
  have hx := h.bx (l.length - 1) (by omega)
  obtain ⟨_, _, ⟨b0, b1, b2⟩, ⟨c0, c1⟩, ⟨d0, d1⟩, g0, g1⟩ := pc_bd h x0 hi
  have L := lnN_bd (p := gR l (pc l x - 1)) (q := gR l (pc l x)) (x := x) b0 b1 b2 (by omega) c1 (by omega) d1 g0 g1
  have eN : lnN (gX l (pc l x - 1)) (gR l (pc l x - 1)) (gX l (pc l x)) (gR l (pc l x)) x = gR l (pc l x - 1) * (gX l (pc l x) - gX l (pc l x - 1)) + (gR l (pc l x) - gR l (pc l x - 1)) * (x - gX l (pc l x - 1)) := rfl
  refine rad_walk v x (lnN (gX l (pc l x - 1)) (gR l (pc l x - 1)) (gX l (pc l x)) (gR l (pc l x)) x) (gX l (pc l x) - gX l (pc l x - 1)) w L.2.2 (by omega) (by omega) (by omega) (Lib.hid fun W hW => ?_)
  obtain ⟨a, cap, rfl, hl, hh⟩ := hv.below hW
  rcases hh with hh | ⟨b, off, rfl, hb, hc⟩
  · omega
  · exact radius_some b off l.length cap l x (pc l x) W n0 (by omega) rfl hb (Lib.hid hc) (Lib.hid h) x0 (by omega) (Lib.hid hi)

theorem ready_bad (v : Value) (x E : Int) (w : World) (e1 : (E == 0) = false) (e2 : (E != 0) = true)
    (H1 : Hid (Calls Try.prog 17 #[v] w fun e w' => e = .returned (.int .i64 E) ∧ Below w.heap.size w w')) :
    Calls Try.prog 37 #[v, .int .i64 x] w fun e w' => e = .returned (.int .i64 1) ∧ Below w.heap.size w w' := by
  go_enter Try.func37, Try.ntmps37
  go_wp2_with fail
  refine H1.out.mono ?_
  rintro e w1 ⟨rfl, gg⟩
  have X1 := Lib.hid gg; clear gg
  go_wp2
  go_returns
  exact ⟨rfl, X1.out⟩
theorem ready_ok (b off m cap : Nat) (x X : Int) (w : World) (n1 : m ≤ 1000) (hb : b < w.heap.size) (hc : Hid (w.cell? ⟨b, off + m * 2, none⟩ = some (.int .i64 X)))
    (H1 : Hid (Calls Try.prog 17 #[.slice (some ⟨b, off, none⟩) (m + 1) cap] w fun e w' => e = .returned (.int .i64 0) ∧ Below w.heap.size w w')) :
    Calls Try.prog 37 #[.slice (some ⟨b, off, none⟩) (m + 1) cap, .int .i64 x] w fun e w' => e = .returned (.int .i64 (if x < 0 ∨ X < x then 2 else 0)) ∧ Below w.heap.size w w' := by
  have wk : IntKind.i64.wrap ((m : Int) + 1 - 1) = (m : Int) := by simp only [IntKind.wrap_i64]; omega
  have wk2 : IntKind.i64.wrap (m : Int) = (m : Int) := by simp only [IntKind.wrap_i64]; omega
  by_cases h0 : x < 0
  · rw [if_pos (.inl h0)]
    go_enter Try.func37, Try.ntmps37
    go_wp2_with fail
    refine H1.out.mono ?_
    rintro e w1 ⟨rfl, gg⟩
    have X1 := Lib.hid gg; clear gg
    go_wp2
    go_returns
    exact ⟨rfl, X1.out⟩
  · by_cases h1 : X < x
    · rw [if_pos (.inr h1)]
      go_enter Try.func37, Try.ntmps37
      go_wp2_with fail
      refine H1.out.mono ?_
      rintro e w1 ⟨rfl, gg⟩
      have c0 : w1.cell? ⟨b, off + m * 2, none⟩ = some (.int .i64 X) := by rw [(bcell gg).1 _ _ hb]; exact hc.out
      have X1 := Lib.hid gg; clear gg
      go_wp2
      go_returns
      exact ⟨rfl, X1.out⟩
    · rw [if_neg (by omega)]
      go_enter Try.func37, Try.ntmps37
      go_wp2_with fail
      refine H1.out.mono ?_
      rintro e w1 ⟨rfl, gg⟩
      have c0 : w1.cell? ⟨b, off + m * 2, none⟩ = some (.int .i64 X) := by rw [(bcell gg).1 _ _ hb]; exact hc.out
      have X1 := Lib.hid gg; clear gg
      go_wp2
      go_returns
      exact ⟨rfl, X1.out⟩
theorem ready_any (v : Value) (l : List (Int × Int)) (x : Int) (w : World) (hv : Pts w v l) :
    Calls Try.prog 37 #[v, .int .i64 x] w fun e w' => e = .returned (.int .i64 (plE l x)) ∧ Below w.heap.size w w' := by
  have HC := Lib.hid (refCk_any v l w hv)
  unfold plE
  by_cases h : ckE l = 0
  · rw [if_pos h]
    rw [h] at HC
    have hR := (ckE_iff l).1 h
    have n0 := hR.n0
    have n1 := hR.n1
    obtain ⟨a, cap, rfl, hl, hh⟩ := hv
    rcases hh with hh | ⟨b, off, rfl, hb, hc⟩
    · omega
    · obtain ⟨m, hm⟩ : ∃ m, l.length = m + 1 := ⟨l.length - 1, by omega⟩
      have c := (hc m (by omega)).1
      rw [hm] at HC ⊢
      rw [show m + 1 - 1 = m by omega]
      exact ready_ok b off m cap x _ w (by omega) hb c HC
  · rw [if_neg h]
    exact ready_bad v x _ w (by simpa using h) (by simpa using h) HC
theorem refAt_bad (v : Value) (x E : Int) (w : World) (e1 : (E == 0) = false) (e2 : (E != 0) = true)
    (H1 : Hid (∀ W, Below w.heap.size w W → Calls Try.prog 37 #[v, .int .i64 x] W fun e w' => e = .returned (.int .i64 E) ∧ Below W.heap.size W w')) :
    Calls Try.prog 19 #[v, .int .i64 x] w fun e w' => e = .returned (.tuple #[.agg #[.int .i64 0, .int .i64 0], .int .i64 E]) ∧ Below w.heap.size w w' := by
  have T0 := Lib.hid (Two.new w (.int .i64 0) (.int .i64 0) 33)
  go_enter Try.func19, Try.ntmps19
  go_wp2_with fail
  refine (H1.out _ (bel_alloc (Below.refl _ _))).mono ?_
  rintro e w1 ⟨rfl, gg⟩
  replace T0 := Lib.hid (T0.out.below gg)
  have X1 := Lib.hid (bel_alloc gg); clear gg
  obtain ⟨z0, z1, f0, f1, hlt⟩ := T0.out
  go_wp2
  obtain ⟨t0, t1⟩ := two_read w1 w.heap.size (.int .i64 0) (.int .i64 0) z0 z1
  refine bodyPost_ret (v := .tuple #[.agg #[.int .i64 0, .int .i64 0], .int .i64 E]) (by simp [results, Try.results19, go_sem, t0, t1]) rfl ?_
  exact ⟨rfl, (X1.out.setCell (Nat.le_refl _) _).setCell (Nat.le_refl _) _⟩
theorem refAt_ok (v : Value) (x L H : Int) (w : World)
    (H1 : Hid (∀ W, Below w.heap.size w W → Calls Try.prog 37 #[v, .int .i64 x] W fun e w' => e = .returned (.int .i64 0) ∧ Below W.heap.size W w'))
    (H2 : Hid (∀ W, Below w.heap.size w W → Calls Try.prog 38 #[v, .int .i64 x] W fun e w' => e = .returned (.agg #[.int .i64 L, .int .i64 H]) ∧ Below W.heap.size W w')) :
    Calls Try.prog 19 #[v, .int .i64 x] w fun e w' => e = .returned (.tuple #[.agg #[.int .i64 L, .int .i64 H], .int .i64 0]) ∧ Below w.heap.size w w' := by
  have T0 := Lib.hid (Two.new w (.int .i64 0) (.int .i64 0) 33)
  go_enter Try.func19, Try.ntmps19
  go_wp2_with fail
  refine (H1.out _ (bel_alloc (Below.refl _ _))).mono ?_
  rintro e w1 ⟨rfl, gg⟩
  replace T0 := Lib.hid (T0.out.below gg)
  have X1 := Lib.hid (bel_alloc gg); clear gg
  go_wp2_with fail
  refine (H2.out _ X1.out).mono ?_
  rintro e w2 ⟨rfl, gg⟩
  replace T0 := Lib.hid (T0.out.below gg)
  replace X1 := Lib.hid (bel_trans X1.out gg); clear gg
  obtain ⟨z0, z1, f0, f1, hlt⟩ := T0.out
  go_wp2
  obtain ⟨t0, t1⟩ := two_read w2 w.heap.size (.int .i64 L) (.int .i64 H) z0 z1
  refine bodyPost_ret (v := .tuple #[.agg #[.int .i64 L, .int .i64 H], .int .i64 0]) (by simp [results, Try.results19, go_sem, t0, t1]) rfl ?_
  exact ⟨rfl, (X1.out.setCell (Nat.le_refl _) _).setCell (Nat.le_refl _) _⟩
theorem refAt_any (v : Value) (l : List (Int × Int)) (x : Int) (w : World) (hv : Pts w v l) :
    Calls Try.prog 19 #[v, .int .i64 x] w fun e w' => e = .returned (.tuple #[.agg #[.int .i64 (atL l x), .int .i64 (atH l x)], .int .i64 (plE l x)]) ∧ Below w.heap.size w w' := by
  have HC : Hid (∀ W, Below w.heap.size w W → _) := fun W hW => ready_any v l x W (hv.below hW)
  unfold atL atH
  by_cases h : plE l x = 0
  · obtain ⟨hR, x0, x1⟩ := plE_zero.1 h
    rw [if_pos h, if_pos h, h]
    rw [h] at HC
    exact refAt_ok v x _ _ w HC (Lib.hid fun W hW => radius_of (hv.below hW) hR x x0 x1)
  · rw [if_neg h, if_neg h]
    exact refAt_bad v x _ w (by simpa using h) (by simpa using h) HC
end Go.Proofs.Ytlofblpfohnooab
