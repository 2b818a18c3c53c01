/- Package segment: Area, Strip, Whole. -/
import Derived.Test.YtlofblpfohnooaaSPd
namespace Go.Proofs.Ytlofblpfohnooaa
open Go.RowKit

theorem area_any (r c : Int) (v : Value) (l : List Int) (w : World) (hv : Nums w v l) :
    Calls Try.prog 20 #[.int .i64 r, .int .i64 c, v] w fun e w' => e = .returned (.tuple #[.agg #[.int .i64 (arL r c l), .int .i64 (arH r c l)], .int .i64 (arE r c l)]) ∧ Below w.heap.size w w' := by
  unfold arL arH
  by_cases h : lenB r = true ∧ lenB c = true
  · have h' : (lenB r && lenB c) = true := by rw [h.1, h.2]; rfl
    have e : arE r c l = hcE l := by unfold arE; rw [if_pos h]
    rw [e]
    have HC := fun W (hb : Below w.heap.size w W) => chk_any v l W (hv.below hb)
    by_cases h0 : hcE l = 0
    · rw [if_pos h0, if_pos h0, h0]
      rw [h0] at HC
      have hR := (hcE_iff l).1 h0
      obtain ⟨a, cap, rfl, hl, hh⟩ := hv
      rcases hh with hh | ⟨b, off, rfl, hb, hc⟩
      · have := hR.n0; omega
      · exact area_ok b off l.length cap l r c w rfl hR h' hb hc HC
    · rw [if_neg h0, if_neg h0]
      exact area_bad r c _ v w h' (by simpa using h0) (by simpa using h0) HC
  · have e : arE r c l = 2 := by unfold arE; rw [if_neg h]
    rw [e, if_neg (by omega), if_neg (by omega)]
    exact area_range r c v w (by simpa using h)

set_option maxHeartbeats 2000000 in
theorem strip_any (r c x y : Int) (w : World) :
    Calls Try.prog 18 #[.int .i64 r, .int .i64 c, .agg #[.int .i64 x, .int .i64 y]] w fun e w' => e = .returned (.tuple #[.agg #[.int .i64 (arL r c [x, y]), .int .i64 (arH r c [x, y])], .int .i64 (arE r c [x, y])]) ∧ Below w.heap.size w w' := by
  have H1 : Hid (∀ (v : Value) W, Nums W v [x, y] → Calls Try.prog 20 #[.int .i64 r, .int .i64 c, v] W fun e w' => e = .returned (.tuple #[.agg #[.int .i64 (arL r c [x, y]), .int .i64 (arH r c [x, y])], .int .i64 (arE r c [x, y])]) ∧ Below W.heap.size W w') := fun v W h => area_any r c v _ W h
  generalize arL r c [x, y] = L at *
  generalize arH r c [x, y] = H at *
  generalize arE r c [x, y] = E at *
  have T0 : Hid (Two (w.heap.size + 1) ((w.alloc (.cells #[.int .i64 x, .int .i64 y] 33)).alloc (.cells #[.int .i64 0, .int .i64 0] 33)) (.int .i64 0) (.int .i64 0)) := by
    have := Two.new (w.alloc (.cells #[.int .i64 x, .int .i64 y] 33)) (.int .i64 0) (.int .i64 0) 33
    rwa [World.size_alloc] at this
  have N0 : Hid (∀ W : World, Nums (W.alloc (.cells #[.int .i64 x, .int .i64 y] 3)) (.slice (some ⟨W.heap.size, 0, none⟩) 2 2) [x, y]) := fun W =>
    ⟨_, 2, rfl, by simp, .inr ⟨W.heap.size, 0, rfl, by simp, fun j hj => by
      match j, hj with
      | 0, _ => simp [go_sem]
      | 1, _ => simp [go_sem]⟩⟩
  go_enter Try.func18, Try.ntmps18
  go_wp2_with fail
  have N1 := N0.out ((w.alloc (.cells #[.int .i64 x, .int .i64 y] 33)).alloc (.cells #[.int .i64 0, .int .i64 0] 33))
  rw [World.size_alloc, World.size_alloc] at N1
  refine (H1.out _ _ N1).mono ?_
  rintro e w1 ⟨rfl, gg⟩
  replace T0 := Lib.hid ((T0.out.alloc (.cells #[.int .i64 x, .int .i64 y] 3)).below gg)
  have X1 := Lib.hid (bel_alloc (bel_alloc (bel_alloc gg))); clear gg N1
  obtain ⟨z0, z1, f0, f1, hlt⟩ := T0.out
  go_wp2
  obtain ⟨t0, t1⟩ := two_read w1 (w.heap.size + 1) (.int .i64 L) (.int .i64 H) z0 z1
  refine bodyPost_ret (v := .tuple #[.agg #[.int .i64 L, .int .i64 H], .int .i64 E]) (by simp [results, Try.results18, go_sem, t0, t1]) rfl ?_
  exact ⟨rfl, (X1.out.setCell (p := ⟨w.heap.size + 1, 0, none⟩) (Nat.le_succ _) _).setCell (p := ⟨w.heap.size + 1, 1, none⟩) (Nat.le_succ _) _⟩

theorem whole_any (r : Int) (w : World) :
    Calls Try.prog 22 #[.int .i64 r] w fun e w' => e = .returned (.tuple #[.agg #[.int .i64 (whL r), .int .i64 (whH r)], .int .i64 (whE r)]) ∧ Below w.heap.size w w' := by
  have HL := Lib.hid (fun W => isLen_any r W)
  unfold whE whL whH
  cases h : lenB r with
  | false =>
    rw [h] at HL
    rw [if_neg (by simp), if_neg (by simp), if_neg (by simp)]
    clear h
    go_enter Try.func22, Try.ntmps22
    go_wp2_with fail
    refine (HL.out _).mono ?_
    rintro e w1 ⟨rfl, hw⟩
    subst hw
    go_wp2
    refine bodyPost_ret (v := .tuple #[.agg #[.int .i64 0, .int .i64 0], .int .i64 2]) (by simp [results, Try.results22, go_sem]) rfl ?_
    exact ⟨rfl, bel_alloc (Below.refl _ _)⟩
  | true =>
    rw [h] at HL
    rw [if_pos rfl, if_pos rfl, if_pos rfl]
    obtain ⟨r0, r1⟩ := (lenB_iff r).1 h
    have s0 : 0 ≤ r * r := Int.mul_nonneg r0 r0
    have s1 : r * r ≤ 10000000000 := by have := sq_mono r0 r1; omega
    clear h
    go_enter Try.func22, Try.ntmps22
    go_wp2_with fail
    refine (HL.out _).mono ?_
    rintro e w1 ⟨rfl, hw⟩
    subst hw
    go_wp2
    refine bodyPost_ret (v := .tuple #[.agg #[.int .i64 (r * r * 333 / 106), .int .i64 ((r * r * 355 + 112) / 113)], .int .i64 0]) (by simp [results, Try.results22, go_sem]) rfl ?_
    exact ⟨rfl, bel_alloc (Below.refl _ _)⟩
end Go.Proofs.Ytlofblpfohnooaa
