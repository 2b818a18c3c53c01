/- Package profile: swells. -/
import Derived.Test.YtlofblpfohnooabPPC
namespace Go.Proofs.Ytlofblpfohnooab
open Go.RowKit Go.Shelf
attribute [local go_sem] Oper.semAt_some

theorem box_kept {A B : World} {row : Option Nat} {g : Nat} {t : TypeId} {v : Value} (h : Boxed A g t v) (hg : A.grownBy B row) (hr : ∀ r, row = some r → ∃ o : Obj, A.heap[r]? = some o ∧ o.isCells = false) : Boxed B g t v :=
  h.kept hg (fun e => by obtain ⟨o, h3, h4⟩ := hr _ e.symm; rw [show A.heap[g]? = _ from h] at h3; cases h3; cases h4)
/-- whether some pieces fall, and whether one rises behind one that falls -/
def stP (l : List (Int × Int)) {m : Nat} (pre : List (Fin m)) : Bool × Bool := pre.foldl (fun s j => (s.1 || decide (gR l (j.val + 1) < gR l j.val), s.2 || (s.1 && decide (gR l j.val < gR l (j.val + 1))))) (false, false)
theorem stP_snoc (l : List (Int × Int)) {m : Nat} (pre : List (Fin m)) (j : Fin m) : stP l (pre ++ [j]) = ((stP l pre).1 || decide (gR l (j.val + 1) < gR l j.val), (stP l pre).2 || ((stP l pre).1 && decide (gR l j.val < gR l (j.val + 1)))) := by
  unfold stP; rw [List.foldl_append]; rfl
theorem stP_all (l : List (Int × Int)) {m : Nat} (k : Nat) (h : k ≤ m) : stP l (ups m k) = (fal l k, swl l k) := by
  induction k with
  | zero => rfl
  | succ k ih => rw [ups_succ (by omega), stP_snoc, ih (by omega)]; rfl

set_option maxRecDepth 100000 in
set_option maxHeartbeats 8000000 in
theorem swells_some (b off n cap : Nat) (l : List (Int × Int)) (S : Bool) (w : World) (n0 : 1 ≤ n) (n1 : n ≤ 1000) (hb : b < w.heap.size)
    (hc : Hid (∀ j, j < n → w.cell? ⟨b, off + j * 2, none⟩ = some (.int .i64 (gX l j)) ∧ w.cell? ⟨b, off + j * 2 + 1, none⟩ = some (.int .i64 (gR l j))))
    (hS : Hid (swl l (n - 1) = S)) :
    Calls Try.prog 32 #[.slice (some ⟨b, off, none⟩) n cap] w fun e w' => e = .returned (.bool S) ∧ Below w.heap.size w w' := by
  refine (callsIn_wide (n := 10)).1 ?_
  refine callsIn_of_wp_marks Try.func32 rfl trivial ?_ rfl
  simp only [Try.ntmps32, List.size_toArray, List.length_cons, List.length_nil, Nat.reduceAdd, Nat.reduceSub, Array.replicate_succ, Array.replicate_zero, List.push_toArray, List.append_toArray, List.nil_append, List.cons_append]
  gi_wp2_with fail
  refine ⟨trivial, (callsIn_wide.2 (pieces_any _ _ _ _)).mono ?_⟩
  rintro e w3 ⟨rfl, rfl⟩
  gi_wp2_with fail
  have BO : Hid (Boxed (w.alloc (.cells #[.bool false] 4)) w.heap.size 4 (.bool false)) := Boxed.new w 4 (.bool false)
  have BF : Hid (Boxed ((w.alloc (.cells #[.bool false] 4)).alloc (.cells #[.bool false] 4)) (w.heap.size + 1) 4 (.bool false)) := by
    have := Boxed.new (w.alloc (.cells #[.bool false] 4)) 4 (.bool false)
    rwa [World.size_alloc] at this
  have BX : Hid (Boxed (((w.alloc (.cells #[.bool false] 4)).alloc (.cells #[.bool false] 4)).alloc (.cells #[.slice (some ⟨b, off, none⟩) n cap] 22)) (w.heap.size + 1 + 1) 22 (.slice (some ⟨b, off, none⟩) n cap)) := by
    have := Boxed.new ((w.alloc (.cells #[.bool false] 4)).alloc (.cells #[.bool false] 4)) 22 (.slice (some ⟨b, off, none⟩) n cap)
    rwa [World.size_alloc, World.size_alloc] at this
  replace BO := Lib.hid ((BO.out.alloc (.cells #[.bool false] 4)).alloc (.cells #[.slice (some ⟨b, off, none⟩) n cap] 22))
  replace BF := Lib.hid (BF.out.alloc (.cells #[.slice (some ⟨b, off, none⟩) n cap] 22))
  have X1 : Hid (Below w.heap.size w (((w.alloc (.cells #[.bool false] 4)).alloc (.cells #[.bool false] 4)).alloc (.cells #[.slice (some ⟨b, off, none⟩) n cap] 22))) := bel_alloc (bel_alloc (bel_alloc (Below.refl _ _)))
  obtain ⟨W0, hW0⟩ : ∃ W0, (((w.alloc (.cells #[.bool false] 4)).alloc (.cells #[.bool false] 4)).alloc (.cells #[.slice (some ⟨b, off, none⟩) n cap] 22)) = W0 := ⟨_, rfl⟩
  have hsz : W0.heap.size = w.heap.size + 1 + 1 + 1 := by rw [← hW0]; simp
  rw [hW0] at BO BF BX X1 ⊢
  clear hW0
  have hl1 : ∀ j, j < n → W0.cell? ⟨b, off + j * 2, none⟩ = some (.int .i64 (gX l j)) ∧ W0.cell? ⟨b, off + j * 2 + 1, none⟩ = some (.int .i64 (gR l j)) := fun j hj => by rw [(bcell X1.out).1 _ _ hb, (bcell X1.out).1 _ _ hb]; exact hc.out j hj
  refine wpIn_rangeFunc_ownH rfl (by omega) (gf := 48) (lb := #[.pointer (some ⟨w.heap.size + 1 + 1, 0, none⟩)]) rfl trivial (enters_of Try.func48 (by kernel_rfl) rfl)
    (pieces_stops 9 (w.heap.size + 1 + 1) w.heap.size b off n cap l (by omega) (by omega) hb W0 X1.out.size BX.out.cell hl1) kpB_t (kpB_b X1.out.size) (Below.refl _ _) (fun _ => rfl)
    (fun pre W => (stP l pre).2 = false ∧ Boxed W w.heap.size 4 (.bool false) ∧ Boxed W (w.heap.size + 1) 4 (.bool (stP l pre).1) ∧ Boxed W (w.heap.size + 1 + 1) 22 (.slice (some ⟨b, off, none⟩) n cap) ∧ Below w.heap.size w W)
    (fun c pre W => c = .ret ∧ (stP l pre).2 = true ∧ W.cell? ⟨w.heap.size, 0, none⟩ = some (.bool true) ∧ Below w.heap.size w W)
    (fun s A B row ⟨i1, i2, i3, i4, i5⟩ hg hr => ⟨i1, box_kept i2 hg (fun r e => (hr r e).2), box_kept i3 hg (fun r e => (hr r e).2), box_kept i4 hg (fun r e => (hr r e).2), ownFrom_below (β := Unit) (Nat.le_refl _) X1.out.size () A B row i5 hg hr⟩)
    (fun c s A B row ⟨i1, i2, i3, i4⟩ hg hr => ⟨i1, i2, cell_kept i3 hg (fun r e => (hr r e).2), ownFrom_below (β := Unit) (Nat.le_refl _) X1.out.size () A B row i4 hg hr⟩)
    ⟨rfl, BO.out, BF.out, BX.out, X1.out⟩
    (fun x a' W => ∃ Bx : Nat, w.heap.size + 1 + 1 < Bx ∧ Four Bx W (.int .i64 (gX l x.val)) (.int .i64 (gR l x.val)) (.int .i64 (gX l (x.val + 1))) (.int .i64 (gR l (x.val + 1))) ∧ a' = { tmps := #[.slice (some ⟨b, off, none⟩) n cap, undef, .pointer (some ⟨w.heap.size, 0, none⟩), .pointer (some ⟨w.heap.size + 1, 0, none⟩), undef, .pointer (some ⟨Bx, 0, none⟩), .slice (some ⟨b, off, none⟩) n cap, .func (.func 48) #[] #[.pointer (some ⟨w.heap.size + 1 + 1, 0, none⟩)], .int .i64 ((x.val : Int) + 1), .agg #[.int .i64 (gX l x.val), .int .i64 (gR l x.val), .int .i64 (gX l (x.val + 1)), .int .i64 (gR l (x.val + 1))], undef, undef, undef, undef, undef, undef, undef, undef, undef, undef, undef, undef, undef, undef, undef, undef, undef, undef, undef, undef], defers := [] })
    (fun x a' _ A B row ⟨Bx, h1, h2, h3⟩ hg hr => ⟨Bx, h1, four_kept h2 hg (fun r e => (hr r e).2), h3⟩) ?assign ?body ?done ?stop
  case assign =>
    rintro lp pre x W K ⟨i1, i2, i3, i4, i5⟩ hK
    dsimp only [encP]
    generalize gX l x.val = u at *
    generalize gR l x.val = p at *
    generalize gX l (x.val + 1) = v at *
    generalize gR l (x.val + 1) = q at *
    gi_wp2
    exact hK _ _ ((KeepsOthers.alloc _ _).from _) ⟨(Below.refl _ W).alloc i5.size _, fun v e => (cell_al _ e)⟩ ⟨i1, i2.alloc _, i3.alloc _, i4.alloc _, bA i5 _⟩ ⟨W.heap.size, i4.lt, Four.new _ _ _ _ _ _, rfl⟩
  case body =>
    rintro lp pre x aa W hlp ⟨rr, hrr⟩ ⟨i1, i2, i3, i4, i5⟩ ⟨Bx, hBx, iX, rfl⟩ hlen
    have es := stP_snoc l pre x
    have hf := i2.frozen
    have hc2 := i2.cell
    have hf3 := i3.frozen
    have hc3 := i3.cell
    rw [i1] at es
    generalize stP l pre = s at *
    obtain ⟨s1, s2⟩ := s
    dsimp only at *
    generalize gX l x.val = u at *
    generalize gR l x.val = p at *
    generalize gX l (x.val + 1) = v at *
    generalize gR l (x.val + 1) = q at *
    obtain ⟨f0, f1, f2, f3⟩ := iX
    have hn1 : w.heap.size + 1 ≠ w.heap.size := by omega
    have hn2 : w.heap.size + 1 + 1 ≠ w.heap.size := by omega
    have hn3 : w.heap.size + 1 + 1 ≠ w.heap.size + 1 := by omega
    have hle : w.heap.size ≤ w.heap.size + 1 := by omega
    by_cases g1 : p < q
    · have g2 : ¬ q < p := by omega
      have d1 : decide (p < q) = true := decide_eq_true g1
      have d2 : decide (q < p) = false := decide_eq_false g2
      rw [d1, d2] at es
      cases s1 with
      | true =>
        gi_wp2
        exact ⟨(KeepsOthers.setCell _ _ _).from _, rfl, by rw [es]; rfl, World.cell?_setCell_same _ _ _ hc2, i5.setCell (p := ⟨w.heap.size, 0, none⟩) (Nat.le_refl _) _⟩
      | false =>
        gi_wp2
        exact ⟨(KeepsOthers.setCell _ _ _).from _, ⟨(Below.refl _ W).setCell (p := ⟨w.heap.size + 1, 0, none⟩) hle _, fun v e => cell_apart _ e hn3⟩, by rw [es]; rfl, i2.other (by omega) _, by rw [es]; exact i3.set _, i4.other hn3 _, i5.setCell (p := ⟨w.heap.size + 1, 0, none⟩) hle _⟩
    · by_cases g2 : q < p
      · have d1 : decide (p < q) = false := decide_eq_false g1
        have d2 : decide (q < p) = true := decide_eq_true g2
        rw [d1, d2] at es
        cases s1 with
        | true =>
          gi_wp2
          exact ⟨(KeepsOthers.setCell _ _ _).from _, ⟨(Below.refl _ W).setCell (p := ⟨w.heap.size + 1, 0, none⟩) hle _, fun v e => cell_apart _ e hn3⟩, by rw [es]; rfl, i2.other (by omega) _, by rw [es]; exact i3.set _, i4.other hn3 _, i5.setCell (p := ⟨w.heap.size + 1, 0, none⟩) hle _⟩
        | false =>
          gi_wp2
          exact ⟨(KeepsOthers.setCell _ _ _).from _, ⟨(Below.refl _ W).setCell (p := ⟨w.heap.size + 1, 0, none⟩) hle _, fun v e => cell_apart _ e hn3⟩, by rw [es]; rfl, i2.other (by omega) _, by rw [es]; exact i3.set _, i4.other hn3 _, i5.setCell (p := ⟨w.heap.size + 1, 0, none⟩) hle _⟩
      · obtain rfl : p = q := by omega
        have d1 : decide (p < p) = false := decide_eq_false g1
        rw [d1] at es
        cases s1 with
        | true =>
          gi_wp2
          exact ⟨(KeepsOthers.setCell _ _ _).from _, ⟨(Below.refl _ W).setCell (p := ⟨w.heap.size + 1, 0, none⟩) hle _, fun v e => cell_apart _ e hn3⟩, by rw [es]; rfl, i2.other (by omega) _, by rw [es]; exact i3.set _, i4.other hn3 _, i5.setCell (p := ⟨w.heap.size + 1, 0, none⟩) hle _⟩
        | false =>
          gi_wp2
          exact ⟨(KeepsOthers.setCell _ _ _).from _, ⟨(Below.refl _ W).setCell (p := ⟨w.heap.size + 1, 0, none⟩) hle _, fun v e => cell_apart _ e hn3⟩, by rw [es]; rfl, i2.other (by omega) _, by rw [es]; exact i3.set _, i4.other hn3 _, i5.setCell (p := ⟨w.heap.size + 1, 0, none⟩) hle _⟩
  case done =>
    rintro D ys W hD rfl ⟨i1, i2, i3, i4, i5⟩ hK
    rw [stP_all l (n - 1) (Nat.le_refl _)] at i1
    obtain rfl : S = false := by rw [← hS.out]; exact i1
    have hc2 := i2.cell
    have hf2 := i2.frozen
    gi_wp2
    have hK' := (KeepsOthers.setCell W ⟨w.heap.size, 0, none⟩ (.bool false)).same D _ hK rfl
    refine ⟨by simp, .inl ⟨_, _, rfl, run_takeDeferred hK', ?_⟩⟩
    have hc5 := cell_kept (World.cell?_setCell_same W ⟨w.heap.size, 0, none⟩ (.bool false) hc2) (grownBy_putObj' _ D (.deferred none)) (fun r e => by cases e; exact ⟨_, hK', rfl⟩)
    refine ⟨.bool false, ?_, rfl, (i5.setCell (p := ⟨w.heap.size, 0, none⟩) (Nat.le_refl _) _).trans (belowK_b (w := w) (Nat.le_refl _) _ D _ _ (by omega) hK' rfl rfl)⟩
    simp [results, Try.results32, go_sem, hc5]
  case stop =>
    rintro D cc pre W hD ⟨k, hk, rfl⟩ ⟨rfl, i2, i3, i4⟩ hK
    rw [stP_all l k hk] at i2
    obtain rfl : S = true := by
      rw [← hS.out]
      obtain ⟨i, j, h1, h2, h3⟩ := (swl_iff _ _).1 i2
      exact (swl_iff _ _).2 ⟨i, j, h1, by omega, h3⟩
    gi_wp2
    refine ⟨by simp, .inl ⟨_, _, rfl, run_takeDeferred hK, ?_⟩⟩
    have hc5 := cell_kept i3 (grownBy_putObj' _ D (.deferred none)) (fun r e => by cases e; exact ⟨_, hK, rfl⟩)
    refine ⟨.bool true, ?_, rfl, i4.trans (belowK_b (w := w) (Nat.le_refl _) _ D _ _ (by omega) hK rfl rfl)⟩
    simp [results, Try.results32, go_sem, hc5]
end Go.Proofs.Ytlofblpfohnooab
