/- Copies of slices of integers, and two that are compared. -/
import Derived.Test.YtlofblpfohnooaaSRefG
import Derived.Test.YtlofblpfohnooaaShelf
import Derived.Laws.IdiomCopy
namespace Go.Proofs.Ytlofblpfohnooaa
open Go.RowKit

theorem Nums.alloc {w : World} {v : Value} {zs : List Int} (h : Nums w v zs) (o : Obj) : Nums (w.alloc o) v zs := h.below (bel_alloc (Below.refl _ _))
/-- a copy reads as what it is copied from, and belongs to the call -/
theorem clone_own (v : Value) (zs : List Int) (w : World) (h : Nums w v zs) (hn : zs.length ≤ 1000) :
    Calls Try.prog 13 #[v] w fun e w' => ∃ u, e = .returned u ∧ w'.ownsRow w.heap.size 3 1 u zs.length (zs.map (Value.int .i64)) ∧ Below w.heap.size w w' := by
  obtain ⟨a, c, rfl, hl, h⟩ := h
  by_cases h0 : zs.length = 0
  · obtain rfl := List.length_eq_zero_iff.1 h0
    cases a with
    | none => refine (Try.slices_Clone_int_nil _ c w).mono fun _ w' g => ⟨_, g.1, ?_, by rw [g.2]; exact Below.refl _ _⟩
              rw [g.2]; exact World.ownsRow_nil _ _ _ _
    | some a => exact (Try.slices_Clone_int_zero a c w).mono fun _ w' ⟨v', g1, g2, _, g4⟩ => ⟨v', g1, g2, g4⟩
  · rcases h with h | ⟨b, off, rfl, _, hc⟩
    · exact absurd h h0
    refine (Try.slices_Clone_int b off zs.length c zs w (Nat.le_refl _) (by omega) hc).mono fun _ w' ⟨v', g1, g2, _, g4⟩ => ⟨v', g1, ?_, g4⟩
    rw [List.take_length] at g2; exact g2
theorem clone_nums (v : Value) (zs : List Int) (w : World) (h : Nums w v zs) (hn : zs.length ≤ 1000) :
    Calls Try.prog 13 #[v] w fun e w' => ∃ u, e = .returned u ∧ Nums w' u zs ∧ Below w.heap.size w w' :=
  (clone_own v zs w h hn).mono fun _ w' ⟨u, g1, g2, g3⟩ => ⟨u, g1, nums_of_own g2, g3⟩
theorem equal_any (v u : Value) (xs ys : List Int) (w : World) (hv : Nums w v xs) (hu : Nums w u ys) :
    Calls Try.prog 15 #[v, u] w fun e w' => e = .returned (.bool (xs == ys)) ∧ Below w.heap.size w w' := by
  obtain ⟨a, c, rfl, hl, hv⟩ := hv
  obtain ⟨b, d, rfl, hm, hu⟩ := hu
  by_cases hlen : xs.length = ys.length
  · by_cases h0 : xs.length = 0
    · have h1 : ys.length = 0 := by omega
      refine (show Calls Try.prog 15 #[.slice a xs.length c, .slice b ys.length d] w _ by rw [h0]; exact Try.slices_Equal_int_empty a b c ys.length d w (by omega)).mono fun _ w' g => ⟨?_, by rw [g.2]; exact Below.refl _ _⟩
      rw [g.1, List.length_eq_zero_iff.1 h0, List.length_eq_zero_iff.1 h1]; rfl
    · rcases hv with hv | ⟨b1, o1, rfl, _, hc1⟩
      · omega
      rcases hu with hu | ⟨b2, o2, rfl, _, hc2⟩
      · omega
      refine (Try.slices_Equal_int b1 o1 xs.length c b2 o2 ys.length d xs ys w (Nat.le_refl _) (Nat.le_refl _) (by omega) (by omega) hc1 hc2).mono fun _ w' g => ⟨?_, ?_⟩
      · rw [g.1, List.take_length, List.take_length]
      · obtain ⟨q, hq⟩ := g.2; rw [hq]; exact bel_drewN _ _
  · refine (Try.slices_Equal_int_lens a b xs.length c ys.length d w hlen).mono fun _ w' g => ⟨?_, by rw [g.2]; exact Below.refl _ _⟩
    rw [g.1]
    congr 2
    symm
    rw [beq_eq_false_iff_ne]
    intro h; exact hlen (by rw [h])
theorem equal_same (v u : Value) (xs : List Int) (w : World) (hv : Nums w v xs) (hu : Nums w u xs) :
    Calls Try.prog 15 #[v, u] w fun e w' => e = .returned (.bool true) ∧ Below w.heap.size w w' := by
  have := equal_any v u xs xs w hv hu
  rw [beq_self_eq_true] at this
  exact this
/-- a literal -/
theorem nums_lit (w : World) (zs : List Int) (cs : List Value) (h : cs = zs.map (Value.int .i64)) (hn : zs.length ≤ 1000) :
    Nums (w.alloc (.cells cs.toArray 3)) (.slice (some ⟨w.heap.size, 0, none⟩) zs.length zs.length) zs := by
  refine ⟨_, _, rfl, by omega, .inr ⟨w.heap.size, 0, rfl, by simp, fun j hj => ?_⟩⟩
  subst h
  rw [World.cell?_alloc_new]
  simp [List.getD, List.getElem?_eq_getElem hj]
end Go.Proofs.Ytlofblpfohnooaa
