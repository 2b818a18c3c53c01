/- Package mix: plain liquids; Draw. -/
import Derived.Test.YtfpdanjhlepckaaDoorMA
import Derived.Test.YtfpdanjhlepckaaDoorAL0
namespace Go.Proofs.YtfpdanjhlepckaaDoor
open Go.RowKit

set_option maxHeartbeats 4000000 in
theorem mxPl_any (A M : Int) (w : World) :
    Calls Tryd.prog 67 #[.agg #[.int .i64 A, .int .i64 M]] w fun e w' => e = .returned (.bool (plB A M)) ∧ Below w.heap.size w w' := by
  have X := Lib.hid (bel_alloc (o := .cells #[.int .i64 A, .int .i64 M] 29) (Below.refl _ (w.alloc (.cells #[.int .i64 A, .int .i64 M] 29))))
  unfold plB
  by_cases h0 : A < 0
  · have d0 : decide (A < 0) = true := decide_eq_true h0
    rw [d0, Bool.true_or, Bool.true_or, Bool.true_or, Bool.not_true, Bool.false_and]
    clear h0
    go_enter Tryd.func67, Tryd.ntmps67
    go_wp2
    go_returns
    exact ⟨rfl, X.out⟩
  have d0 : decide (A < 0) = false := decide_eq_false h0
  by_cases h1 : 10737418240000 < A
  · have d1 : decide (10737418240000 < A) = true := decide_eq_true h1
    rw [d0, d1, Bool.false_or, Bool.true_or, Bool.true_or, Bool.not_true, Bool.false_and]
    clear h0 h1
    go_enter Tryd.func67, Tryd.ntmps67
    go_wp2
    go_returns
    exact ⟨rfl, X.out⟩
  have d1 : decide (10737418240000 < A) = false := decide_eq_false h1
  by_cases h2 : M < 0
  · have d2 : decide (M < 0) = true := decide_eq_true h2
    rw [d0, d1, d2, Bool.false_or, Bool.false_or, Bool.true_or, Bool.not_true, Bool.false_and]
    clear h0 h1 h2
    go_enter Tryd.func67, Tryd.ntmps67
    go_wp2
    go_returns
    exact ⟨rfl, X.out⟩
  have d2 : decide (M < 0) = false := decide_eq_false h2
  by_cases h3 : 128849018880000 < M
  · have d3 : decide (128849018880000 < M) = true := decide_eq_true h3
    rw [d0, d1, d2, d3, Bool.false_or, Bool.false_or, Bool.false_or, Bool.not_true, Bool.false_and]
    clear h0 h1 h2 h3
    go_enter Tryd.func67, Tryd.ntmps67
    go_wp2
    go_returns
    exact ⟨rfl, X.out⟩
  have d3 : decide (128849018880000 < M) = false := decide_eq_false h3
  rw [d0, d1, d2, d3, Bool.false_or, Bool.false_or, Bool.false_or, Bool.not_false, Bool.true_and]
  clear h0 h1 h2 h3
  by_cases h4 : A = 0
  · rw [decide_eq_true h4, Bool.true_or]
    have d4 : (A == 0) = true := by simpa using h4
    clear h4
    go_enter Tryd.func67, Tryd.ntmps67
    go_wp2
    go_returns
    exact ⟨rfl, X.out⟩
  · rw [decide_eq_false h4, Bool.false_or]
    have d4 : (A == 0) = false := by simpa using h4
    clear h4
    generalize hB : decide (0 < M) = B
    go_enter Tryd.func67, Tryd.ntmps67
    go_wp2
    go_returns
    exact ⟨rfl, X.out⟩
theorem two_new1 (w : World) (o : Obj) (x y : Value) (T : TypeId) : Two (w.heap.size + 1) ((w.alloc o).alloc (.cells #[x, y] T)) x y := by
  have := Two.new (w.alloc o) x y T
  rwa [World.size_alloc] at this
theorem two_new2 (w : World) (o o' : Obj) (x y : Value) (T : TypeId) : Two (w.heap.size + 1 + 1) (((w.alloc o).alloc o').alloc (.cells #[x, y] T)) x y := by
  have := Two.new ((w.alloc o).alloc o') x y T
  rwa [World.size_alloc, World.size_alloc] at this
theorem two_read2 (w : World) (b c : Nat) (u v x y : Value) {p q r s : Value} (hn : b ≠ c) (h0 : w.cell? ⟨b, 0, none⟩ = some p) (h1 : w.cell? ⟨b, 1, none⟩ = some q) (h2 : w.cell? ⟨c, 0, none⟩ = some r) (h3 : w.cell? ⟨c, 1, none⟩ = some s) :
    (((((w.setCell ⟨b, 0, none⟩ u).setCell ⟨b, 1, none⟩ v).setCell ⟨c, 0, none⟩ x).setCell ⟨c, 1, none⟩ y).cell? ⟨b, 0, none⟩ = some u ∧ ((((w.setCell ⟨b, 0, none⟩ u).setCell ⟨b, 1, none⟩ v).setCell ⟨c, 0, none⟩ x).setCell ⟨c, 1, none⟩ y).cell? ⟨b, 1, none⟩ = some v) ∧
    ((((w.setCell ⟨b, 0, none⟩ u).setCell ⟨b, 1, none⟩ v).setCell ⟨c, 0, none⟩ x).setCell ⟨c, 1, none⟩ y).cell? ⟨c, 0, none⟩ = some x ∧ ((((w.setCell ⟨b, 0, none⟩ u).setCell ⟨b, 1, none⟩ v).setCell ⟨c, 0, none⟩ x).setCell ⟨c, 1, none⟩ y).cell? ⟨c, 1, none⟩ = some y := by
  have hc0 : ((w.setCell ⟨b, 0, none⟩ u).setCell ⟨b, 1, none⟩ v).cell? ⟨c, 0, none⟩ = some r := by
    rw [World.cell?_setCell_other _ _ _ _ (by first | (simp; done) | (simp; omega)), World.cell?_setCell_other _ _ _ _ (by first | (simp; done) | (simp; omega))]; exact h2
  have hc1 : ((w.setCell ⟨b, 0, none⟩ u).setCell ⟨b, 1, none⟩ v).cell? ⟨c, 1, none⟩ = some s := by
    rw [World.cell?_setCell_other _ _ _ _ (by first | (simp; done) | (simp; omega)), World.cell?_setCell_other _ _ _ _ (by first | (simp; done) | (simp; omega))]; exact h3
  obtain ⟨b0, b1⟩ := two_read w b u v h0 h1
  obtain ⟨c0, c1⟩ := two_read ((w.setCell ⟨b, 0, none⟩ u).setCell ⟨b, 1, none⟩ v) c x y hc0 hc1
  refine ⟨⟨?_, ?_⟩, c0, c1⟩
  · rw [World.cell?_setCell_other _ _ _ _ (by first | (simp; done) | (simp; omega)), World.cell?_setCell_other _ _ _ _ (by first | (simp; done) | (simp; omega))]; exact b0
  · rw [World.cell?_setCell_other _ _ _ _ (by first | (simp; done) | (simp; omega)), World.cell?_setCell_other _ _ _ _ (by first | (simp; done) | (simp; omega))]; exact b1
end Go.Proofs.YtfpdanjhlepckaaDoor

