/- A block with four cells. -/
import Derived.Test.YtfpdanjhlepckaaDoorTwo
namespace Go.Proofs.YtfpdanjhlepckaaDoor
open Go.RowKit

def Quad (b : Nat) (W : World) (x y z u : Value) : Prop := W.cell? ⟨b, 0, none⟩ = some x ∧ W.cell? ⟨b, 1, none⟩ = some y ∧ W.cell? ⟨b, 2, none⟩ = some z ∧ W.cell? ⟨b, 3, none⟩ = some u ∧ (∀ k, k < 4 → W.frozen? ⟨b, k, none⟩ = false) ∧ b < W.heap.size
theorem Quad.below {b : Nat} {W W' : World} {x y z u : Value} (h : Quad b W x y z u) (hb : Below W.heap.size W W') : Quad b W' x y z u := by
  obtain ⟨h0, h1, h2, h3, h4, h5⟩ := h
  exact ⟨by rw [(bcell hb).1 _ _ h5]; exact h0, by rw [(bcell hb).1 _ _ h5]; exact h1, by rw [(bcell hb).1 _ _ h5]; exact h2, by rw [(bcell hb).1 _ _ h5]; exact h3, fun k hk => by rw [(bcell hb).2 _ _ h5]; exact h4 k hk, Nat.lt_of_lt_of_le h5 hb.size⟩
theorem Quad.alloc {b : Nat} {W : World} {x y z u : Value} (h : Quad b W x y z u) (o : Obj) : Quad b (W.alloc o) x y z u := h.below (bel_alloc (Below.refl _ _))
theorem Quad.new (W : World) (x y z u : Value) (T : TypeId) : Quad W.heap.size (W.alloc (.cells #[x, y, z, u] T)) x y z u :=
  ⟨by simp [go_sem], by simp [go_sem], by simp [go_sem], by simp [go_sem], fun k _ => by simp [go_sem], by simp⟩
theorem quad_read (w : World) (b : Nat) (x y z u : Value) {a0 a1 a2 a3 : Value} (h0 : w.cell? ⟨b, 0, none⟩ = some a0) (h1 : w.cell? ⟨b, 1, none⟩ = some a1) (h2 : w.cell? ⟨b, 2, none⟩ = some a2) (h3 : w.cell? ⟨b, 3, none⟩ = some a3) :
    ((((w.setCell ⟨b, 0, none⟩ x).setCell ⟨b, 1, none⟩ y).setCell ⟨b, 2, none⟩ z).setCell ⟨b, 3, none⟩ u).cell? ⟨b, 0, none⟩ = some x ∧ ((((w.setCell ⟨b, 0, none⟩ x).setCell ⟨b, 1, none⟩ y).setCell ⟨b, 2, none⟩ z).setCell ⟨b, 3, none⟩ u).cell? ⟨b, 1, none⟩ = some y ∧ ((((w.setCell ⟨b, 0, none⟩ x).setCell ⟨b, 1, none⟩ y).setCell ⟨b, 2, none⟩ z).setCell ⟨b, 3, none⟩ u).cell? ⟨b, 2, none⟩ = some z ∧ ((((w.setCell ⟨b, 0, none⟩ x).setCell ⟨b, 1, none⟩ y).setCell ⟨b, 2, none⟩ z).setCell ⟨b, 3, none⟩ u).cell? ⟨b, 3, none⟩ = some u := by
  have o : ∀ (W : World) (i j : Nat) (v : Value), i ≠ j → (W.setCell ⟨b, j, none⟩ v).cell? ⟨b, i, none⟩ = W.cell? ⟨b, i, none⟩ := fun W i j v h => World.cell?_setCell_other _ _ _ _ (by simp)
  refine ⟨?_, ?_, ?_, ?_⟩
  · rw [o _ 0 3 _ (by decide), o _ 0 2 _ (by decide), o _ 0 1 _ (by decide)]; exact World.cell?_setCell_same _ _ _ h0
  · rw [o _ 1 3 _ (by decide), o _ 1 2 _ (by decide)]; exact World.cell?_setCell_same (u := a1) _ _ _ (by rw [o _ 1 0 _ (by decide)]; exact h1)
  · rw [o _ 2 3 _ (by decide)]; exact World.cell?_setCell_same (u := a2) _ _ _ (by rw [o _ 2 1 _ (by decide), o _ 2 0 _ (by decide)]; exact h2)
  · exact World.cell?_setCell_same (u := a3) _ _ _ (by rw [o _ 3 2 _ (by decide), o _ 3 1 _ (by decide), o _ 3 0 _ (by decide)]; exact h3)
end Go.Proofs.YtfpdanjhlepckaaDoor

