/- The reference of layer 7: areas between heights. -/
import Derived.Test.YtlofblpfohnooaaSRefB
import Derived.Test.YtlofblpfohnooaaSRefC
import Derived.StillTailTactics
namespace Go.Proofs.Ytlofblpfohnooaa
open Go.RowKit

theorem refArea_range (r c : Int) (v : Value) (w : World) (h : lenB r = false ∨ (lenB r = true ∧ lenB c = false)) :
    Calls Try.prog 21 #[.int .i64 r, .int .i64 c, v] w fun e w' => e = .returned (.tuple #[.agg #[.int .i64 0, .int .i64 0], .int .i64 2]) ∧ Below w.heap.size w w' := by
  have H1 := Lib.hid (fun W => refLen_any r W)
  have H2 := Lib.hid (fun W => refLen_any c W)
  rcases h with h | ⟨h, h2⟩
  · rw [h] at H1
    clear h
    go_enter Try.func21, Try.ntmps21
    go_wp2_with fail
    refine (H1.out _).mono ?_
    rintro e w1 ⟨rfl, hw⟩
    subst hw
    go_wp2
    refine bodyPost_ret (v := .tuple #[.agg #[.int .i64 0, .int .i64 0], .int .i64 2]) (by simp [results, Try.results21, go_sem]) rfl ?_
    exact ⟨rfl, bel_alloc (Below.refl _ _)⟩
  · rw [h] at H1
    rw [h2] at H2
    clear h h2
    go_enter Try.func21, Try.ntmps21
    go_wp2_with fail
    refine (H1.out _).mono ?_
    rintro e w1 ⟨rfl, hw⟩
    subst hw
    go_wp2_with fail
    refine (H2.out _).mono ?_
    rintro e w1 ⟨rfl, hw⟩
    subst hw
    go_wp2
    refine bodyPost_ret (v := .tuple #[.agg #[.int .i64 0, .int .i64 0], .int .i64 2]) (by simp [results, Try.results21, go_sem]) rfl ?_
    exact ⟨rfl, bel_alloc (Below.refl _ _)⟩
theorem refArea_bad (r c E : Int) (v : Value) (w : World) (h : lenB r = true) (h2 : lenB c = true) (e1 : (E == 0) = false) (e2 : (E != 0) = true)
    (H3 : Hid (∀ W, Below w.heap.size w W → Calls Try.prog 17 #[v] W fun e w' => e = .returned (.int .i64 E) ∧ Below W.heap.size W w')) :
    Calls Try.prog 21 #[.int .i64 r, .int .i64 c, v] w fun e w' => e = .returned (.tuple #[.agg #[.int .i64 0, .int .i64 0], .int .i64 E]) ∧ Below w.heap.size w w' := by
  have H1 := Lib.hid (fun W => refLen_any r W)
  have H2 := Lib.hid (fun W => refLen_any c W)
  rw [h] at H1
  rw [h2] at H2
  clear h h2
  have T0 := Lib.hid (Two.new w (.int .i64 0) (.int .i64 0) 33)
  go_enter Try.func21, Try.ntmps21
  go_wp2_with fail
  refine (H1.out _).mono ?_
  rintro e w1 ⟨rfl, hw⟩
  subst hw
  go_wp2_with fail
  refine (H2.out _).mono ?_
  rintro e w1 ⟨rfl, hw⟩
  subst hw
  go_wp2_with fail
  refine (H3.out _ (bel_alloc (Below.refl _ _))).mono ?_
  rintro e w1 ⟨rfl, gg⟩
  replace T0 := Lib.hid (T0.out.below gg)
  have X1 := Lib.hid (bel_alloc gg); clear gg
  obtain ⟨z0, z1, f0, f1, hlt⟩ := T0.out
  go_wp2
  obtain ⟨t0, t1⟩ := two_read w1 w.heap.size (.int .i64 0) (.int .i64 0) z0 z1
  refine bodyPost_ret (v := .tuple #[.agg #[.int .i64 0, .int .i64 0], .int .i64 E]) (by simp [results, Try.results21, go_sem, t0, t1]) rfl ?_
  exact ⟨rfl, (X1.out.setCell (Nat.le_refl _) _).setCell (Nat.le_refl _) _⟩

theorem Two.put0 {b : Nat} {W : World} {x y : Value} (h : Two b W x y) (z : Value) : Two b (W.setCell ⟨b, 0, none⟩ z) z y := by
  obtain ⟨h0, h1, h2, h3, h4⟩ := h
  refine ⟨?_, ?_, ?_, ?_, ?_⟩
  · exact World.cell?_setCell_same _ _ _ h0
  · rw [World.cell?_setCell_other _ _ _ _ (by simp)]; exact h1
  · rw [World.frozen?_setCell]; exact h2
  · rw [World.frozen?_setCell]; exact h3
  · simpa [World.setCell] using h4

/-- behind a struct's own block: made behind the call, or ahead of it -/
def Meets (w : World) (b1 : Nat) (oL oH pL pH : Value) (s : Value) (wx : World) : Prop := ∃ bs : Nat, s = .pointer (some ⟨bs, 0, none⟩) ∧ bs ≠ b1 ∧ Hid (Two bs wx oL oH) ∧ Hid (Below w.heap.size w wx) ∧ Hid (Two w.heap.size wx (.int .i64 0) (.int .i64 0)) ∧ Hid (Two b1 wx pL pH)
theorem meets_behind {w wr w2 : World} {b1 : Nat} {oL oH pL pH : Value} {T : TypeId} (hB : Below w.heap.size w wr) (X : Below wr.drew.heap.size wr.drew w2) (hT : Two w.heap.size wr (.int .i64 0) (.int .i64 0)) (hS : Two b1 wr pL pH) :
    Meets w b1 oL oH pL pH (.pointer (some ⟨w2.heap.size, 0, none⟩)) (w2.alloc (.cells #[oL, oH] T)) := by
  have X1 : Below wr.heap.size wr w2 := bel_trans (bel_drew wr) X
  have h1 := (hS.below X1).2.2.2.2
  exact ⟨_, rfl, Nat.ne_of_gt h1, Two.new w2 oL oH T, bel_trans (bel_trans hB X1) (bel_alloc (Below.refl _ _)), (hT.below X1).alloc _, (hS.below X1).alloc _⟩
theorem meets_ahead {w wr w2 : World} {b1 : Nat} {oL oH pL pH a c : Value} {T : TypeId} (hB : Below w.heap.size w wr) (X : Below (wr.alloc (.cells #[a, c] T)).drew.heap.size (wr.alloc (.cells #[a, c] T)).drew w2) (hT : Two w.heap.size wr (.int .i64 0) (.int .i64 0)) (hS : Two b1 wr pL pH) :
    Meets w b1 oL oH pL pH (.pointer (some ⟨wr.heap.size, 0, none⟩)) ((w2.setCell ⟨wr.heap.size, 0, none⟩ oL).setCell ⟨wr.heap.size, 1, none⟩ oH) := by
  have X1 : Below wr.heap.size wr w2 := bel_alloc (bel_trans (bel_drew _) X)
  have X0 : Below (wr.alloc (.cells #[a, c] T)).heap.size (wr.alloc (.cells #[a, c] T)) w2 := bel_trans (bel_drew _) X
  have hN := (Two.new wr a c T).below X0
  have h1 : b1 ≠ wr.heap.size := Nat.ne_of_lt hS.2.2.2.2
  have h2 : w.heap.size ≠ wr.heap.size := Nat.ne_of_lt hT.2.2.2.2
  have h3 : w.heap.size ≤ wr.heap.size := Nat.le_of_lt hT.2.2.2.2
  refine ⟨_, rfl, h1.symm, (hN.put0 oL).set1 oH, ?_, ?_, ?_⟩
  · exact ((bel_trans hB X1).setCell (p := ⟨wr.heap.size, 0, none⟩) h3 _).setCell (p := ⟨wr.heap.size, 1, none⟩) h3 _
  · exact ((hT.below X1).other ⟨wr.heap.size, 0, none⟩ h2.symm _).other ⟨wr.heap.size, 1, none⟩ h2.symm _
  · exact ((hS.below X1).other ⟨wr.heap.size, 0, none⟩ h1.symm _).other ⟨wr.heap.size, 1, none⟩ h1.symm _

end Go.Proofs.Ytlofblpfohnooaa
