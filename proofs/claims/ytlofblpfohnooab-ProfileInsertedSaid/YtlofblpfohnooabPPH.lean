/- Package profile: At. -/
import Derived.Test.YtlofblpfohnooabPPG
namespace Go.Proofs.Ytlofblpfohnooab
open Go.RowKit

/-- a piece of a right profile, at a place of it -/
theorem pc_bd {l : List (Int × Int)} {x : Int} {i : Nat} (h : RP l) (x0 : 0 ≤ x) (hi : IsPc l x i) :
    1 ≤ i ∧ i < l.length ∧ (0 ≤ gX l (i - 1) ∧ gX l (i - 1) < gX l i ∧ gX l i ≤ 100000) ∧ (1 ≤ gR l (i - 1) ∧ gR l (i - 1) ≤ 100000) ∧ (1 ≤ gR l i ∧ gR l i ≤ 100000) ∧ gX l (i - 1) ≤ x ∧ x ≤ gX l i := by
  have h1 := hi.h1
  have h2 := hi.h2
  have b0 := h.bx (i - 1) (by omega)
  have b1 := h.bx i h2
  have a := h.asc (i - 1) (by omega)
  rw [show i - 1 + 1 = i by omega] at a
  refine ⟨h1, h2, ⟨b0.1, a, b1.2⟩, h.br _ (by omega), h.br _ h2, ?_, hi.h3⟩
  by_cases e : i = 1
  · subst e; have := h.x0; show gX l 0 ≤ x; omega
  · have := hi.h4 (i - 1) (by omega) (by omega)
    omega
theorem find_of {v : Value} {l : List (Int × Int)} {w : World} (hv : Pts w v l) (h : RP l) (x : Int) (i : Nat) (hi : IsPc l x i) :
    Calls Try.prog 35 #[v, .int .i64 x] w fun e w' => e = .returned (.tuple #[.agg #[.int .i64 (gX l (i - 1)), .int .i64 (gR l (i - 1)), .int .i64 (gX l i), .int .i64 (gR l i)], .int .i64 i]) ∧ Below w.heap.size w w' := by
  have n0 := h.n0
  have n1 := h.n1
  obtain ⟨a, cap, rfl, hl, hh⟩ := hv
  rcases hh with hh | ⟨b, off, rfl, hb, hc⟩
  · omega
  · exact find_some b off l.length cap l x i w n0 (by omega) rfl hb (Lib.hid hc) (Lib.hid hi)
/-- the radius on the piece -/
theorem at_of {l : List (Int × Int)} {x : Int} {i : Nat} (h : RP l) (x0 : 0 ≤ x) (hi : IsPc l x i) (w : World) :
    Calls Try.prog 36 #[.agg #[.int .i64 (gX l (i - 1)), .int .i64 (gR l (i - 1)), .int .i64 (gX l i), .int .i64 (gR l i)], .int .i64 x] w fun e w' => e = .returned (.agg #[.int .i64 (rdL l x), .int .i64 (rdH l x)]) ∧ Below w.heap.size w w' := by
  obtain ⟨h1, h2, ⟨b0, b1, b2⟩, ⟨c0, c1⟩, ⟨d0, d1⟩, g0, g1⟩ := pc_bd h x0 hi
  have e := pc_of hi
  unfold rdL rdH
  rw [e]
  exact at_any _ _ _ _ x w b0 b1 b2 (by omega) c1 (by omega) d1 g0 g1

theorem At_bad (v : Value) (x E : Int) (w : World) (e1 : (E == 0) = false) (e2 : (E != 0) = true)
    (H1 : Hid (∀ W, Below w.heap.size w W → Calls Try.prog 34 #[v, .int .i64 x] W fun e w' => e = .returned (.int .i64 E) ∧ Below W.heap.size W w')) :
    Calls Try.prog 18 #[v, .int .i64 x] w fun e w' => e = .returned (.tuple #[.agg #[.int .i64 0, .int .i64 0], .int .i64 E]) ∧ Below w.heap.size w w' := by
  have T0 := Lib.hid (Two.new w (.int .i64 0) (.int .i64 0) 33)
  go_enter Try.func18, Try.ntmps18
  go_wp2_with fail
  refine (H1.out _ (bel_alloc (Below.refl _ _))).mono ?_
  rintro e w1 ⟨rfl, gg⟩
  replace T0 := Lib.hid (T0.out.below gg)
  have X1 := Lib.hid (bel_alloc gg); clear gg
  obtain ⟨z0, z1, f0, f1, hlt⟩ := T0.out
  go_wp2
  obtain ⟨t0, t1⟩ := two_read w1 w.heap.size (.int .i64 0) (.int .i64 0) z0 z1
  refine bodyPost_ret (v := .tuple #[.agg #[.int .i64 0, .int .i64 0], .int .i64 E]) (by simp [results, Try.results18, go_sem, t0, t1]) rfl ?_
  exact ⟨rfl, (X1.out.setCell (Nat.le_refl _) _).setCell (Nat.le_refl _) _⟩
set_option maxHeartbeats 4000000 in
theorem At_ok (v : Value) (x a p b q i L H : Int) (w : World)
    (H1 : Hid (∀ W, Below w.heap.size w W → Calls Try.prog 34 #[v, .int .i64 x] W fun e w' => e = .returned (.int .i64 0) ∧ Below W.heap.size W w'))
    (H2 : Hid (∀ W, Below w.heap.size w W → Calls Try.prog 35 #[v, .int .i64 x] W fun e w' => e = .returned (.tuple #[.agg #[.int .i64 a, .int .i64 p, .int .i64 b, .int .i64 q], .int .i64 i]) ∧ Below W.heap.size W w'))
    (H3 : Hid (∀ W, Calls Try.prog 36 #[.agg #[.int .i64 a, .int .i64 p, .int .i64 b, .int .i64 q], .int .i64 x] W fun e w' => e = .returned (.agg #[.int .i64 L, .int .i64 H]) ∧ Below W.heap.size W w')) :
    Calls Try.prog 18 #[v, .int .i64 x] w fun e w' => e = .returned (.tuple #[.agg #[.int .i64 L, .int .i64 H], .int .i64 0]) ∧ Below w.heap.size w w' := by
  have T0 := Lib.hid (Two.new w (.int .i64 0) (.int .i64 0) 33)
  go_enter Try.func18, Try.ntmps18
  go_wp2_with fail
  refine (H1.out _ (bel_alloc (Below.refl _ _))).mono ?_
  rintro e w1 ⟨rfl, gg⟩
  replace T0 := Lib.hid (T0.out.below gg)
  have X1 := Lib.hid (bel_alloc gg); clear gg
  go_wp2_with fail
  refine (H2.out _ X1.out).mono ?_
  rintro e w2 ⟨rfl, gg⟩
  replace T0 := Lib.hid (T0.out.below gg)
  replace X1 := Lib.hid (bel_trans X1.out gg); clear gg
  go_wp2_with fail
  refine (H3.out _).mono ?_
  rintro e w3 ⟨rfl, gg⟩
  replace T0 := Lib.hid ((T0.out.alloc _).below gg)
  replace X1 := Lib.hid (bel_trans X1.out (bel_alloc gg)); clear gg
  obtain ⟨z0, z1, f0, f1, hlt⟩ := T0.out
  go_wp2
  obtain ⟨t0, t1⟩ := two_read w3 w.heap.size (.int .i64 L) (.int .i64 H) z0 z1
  refine bodyPost_ret (v := .tuple #[.agg #[.int .i64 L, .int .i64 H], .int .i64 0]) (by simp [results, Try.results18, go_sem, t0, t1]) rfl ?_
  exact ⟨rfl, (X1.out.setCell (Nat.le_refl _) _).setCell (Nat.le_refl _) _⟩
theorem plE_zero {l : List (Int × Int)} {x : Int} : plE l x = 0 ↔ RP l ∧ 0 ≤ x ∧ x ≤ gX l (l.length - 1) := by
  unfold plE
  by_cases h : ckE l = 0
  · rw [if_pos h]
    have := (ckE_iff l).1 h
    by_cases g : x < 0 ∨ gX l (l.length - 1) < x
    · rw [if_pos g]; exact ⟨fun e => by omega, fun e => by omega⟩
    · rw [if_neg g]; exact ⟨fun _ => ⟨this, by omega, by omega⟩, fun _ => rfl⟩
  · rw [if_neg h]
    exact ⟨fun e => by omega, fun e => absurd ((ckE_iff l).2 e.1) h⟩
theorem At_any (v : Value) (l : List (Int × Int)) (x : Int) (w : World) (hv : Pts w v l) :
    Calls Try.prog 18 #[v, .int .i64 x] w fun e w' => e = .returned (.tuple #[.agg #[.int .i64 (atL l x), .int .i64 (atH l x)], .int .i64 (plE l x)]) ∧ Below w.heap.size w w' := by
  have HC : Hid (∀ W, Below w.heap.size w W → _) := fun W hW => place_any v l x W (hv.below hW)
  unfold atL atH
  by_cases h : plE l x = 0
  · obtain ⟨hR, x0, x1⟩ := plE_zero.1 h
    have hi := pc_is hR.n0 x1
    rw [if_pos h, if_pos h, h]
    rw [h] at HC
    exact At_ok v x _ _ _ _ _ _ _ w HC (Lib.hid fun W hW => find_of (hv.below hW) hR x _ hi) (Lib.hid fun W => at_of hR x0 hi W)
  · rw [if_neg h, if_neg h]
    exact At_bad v x _ w (by simpa using h) (by simpa using h) HC
end Go.Proofs.Ytlofblpfohnooab
