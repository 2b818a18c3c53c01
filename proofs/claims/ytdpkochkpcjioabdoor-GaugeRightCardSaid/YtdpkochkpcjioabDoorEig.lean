/- A block with eight cells; reports as eight numbers. -/
import Derived.Test.YtdpkochkpcjioabDoorQuad
namespace Go.Proofs.YtdpkochkpcjioabDoor
open Go.RowKit

def Eig (b : Nat) (W : World) (x0 x1 x2 x3 x4 x5 x6 x7 : Value) : Prop := W.cell? ⟨b, 0, none⟩ = some x0 ∧ W.cell? ⟨b, 1, none⟩ = some x1 ∧ W.cell? ⟨b, 2, none⟩ = some x2 ∧ W.cell? ⟨b, 3, none⟩ = some x3 ∧ W.cell? ⟨b, 4, none⟩ = some x4 ∧ W.cell? ⟨b, 5, none⟩ = some x5 ∧ W.cell? ⟨b, 6, none⟩ = some x6 ∧ W.cell? ⟨b, 7, none⟩ = some x7 ∧ (∀ k, k < 8 → W.frozen? ⟨b, k, none⟩ = false) ∧ b < W.heap.size
theorem Eig.below {b : Nat} {W W' : World} {x0 x1 x2 x3 x4 x5 x6 x7 : Value} (h : Eig b W x0 x1 x2 x3 x4 x5 x6 x7) (hb : Below W.heap.size W W') : Eig b W' x0 x1 x2 x3 x4 x5 x6 x7 := by
  obtain ⟨h0, h1, h2, h3, h4, h5, h6, h7, hf, hl⟩ := h
  exact ⟨by rw [(bcell hb).1 _ _ hl]; exact h0, by rw [(bcell hb).1 _ _ hl]; exact h1, by rw [(bcell hb).1 _ _ hl]; exact h2, by rw [(bcell hb).1 _ _ hl]; exact h3, by rw [(bcell hb).1 _ _ hl]; exact h4, by rw [(bcell hb).1 _ _ hl]; exact h5, by rw [(bcell hb).1 _ _ hl]; exact h6, by rw [(bcell hb).1 _ _ hl]; exact h7, fun k hk => by rw [(bcell hb).2 _ _ hl]; exact hf k hk, Nat.lt_of_lt_of_le hl hb.size⟩
theorem Eig.alloc {b : Nat} {W : World} {x0 x1 x2 x3 x4 x5 x6 x7 : Value} (h : Eig b W x0 x1 x2 x3 x4 x5 x6 x7) (o : Obj) : Eig b (W.alloc o) x0 x1 x2 x3 x4 x5 x6 x7 := h.below (bel_alloc (Below.refl _ _))
theorem Eig.new (W : World) (x0 x1 x2 x3 x4 x5 x6 x7 : Value) (T : TypeId) : Eig W.heap.size (W.alloc (.cells #[x0, x1, x2, x3, x4, x5, x6, x7] T)) x0 x1 x2 x3 x4 x5 x6 x7 :=
  ⟨by simp [go_sem], by simp [go_sem], by simp [go_sem], by simp [go_sem], by simp [go_sem], by simp [go_sem], by simp [go_sem], by simp [go_sem], fun k _ => by simp [go_sem], by simp⟩
/-- eight stores to a block, read -/
theorem Eig.put {b : Nat} {W : World} {x0 x1 x2 x3 x4 x5 x6 x7 : Value} (h : Eig b W x0 x1 x2 x3 x4 x5 x6 x7) (y0 y1 y2 y3 y4 y5 y6 y7 : Value) : Eig b ((((((((W.setCell ⟨b, 0, none⟩ y0).setCell ⟨b, 1, none⟩ y1).setCell ⟨b, 2, none⟩ y2).setCell ⟨b, 3, none⟩ y3).setCell ⟨b, 4, none⟩ y4).setCell ⟨b, 5, none⟩ y5).setCell ⟨b, 6, none⟩ y6).setCell ⟨b, 7, none⟩ y7) y0 y1 y2 y3 y4 y5 y6 y7 := by
  obtain ⟨h0, h1, h2, h3, h4, h5, h6, h7, hf, hl⟩ := h
  have o : ∀ (W : World) (i j : Nat) (v : Value), i ≠ j → (W.setCell ⟨b, j, none⟩ v).cell? ⟨b, i, none⟩ = W.cell? ⟨b, i, none⟩ := fun W i j v h => World.cell?_setCell_other _ _ _ _ (by simp)
  have s : ∀ (W : World) (i : Nat) (v u : Value), W.cell? ⟨b, i, none⟩ = some u → (W.setCell ⟨b, i, none⟩ v).cell? ⟨b, i, none⟩ = some v := fun W i v u h => World.cell?_setCell_same _ _ _ h
  refine ⟨?_, ?_, ?_, ?_, ?_, ?_, ?_, ?_, fun k hk => ?_, ?_⟩
  · rw [o _ 0 7 _ (by decide), o _ 0 6 _ (by decide), o _ 0 5 _ (by decide), o _ 0 4 _ (by decide), o _ 0 3 _ (by decide), o _ 0 2 _ (by decide), o _ 0 1 _ (by decide)]; exact s _ 0 _ x0 (by exact h0)
  · rw [o _ 1 7 _ (by decide), o _ 1 6 _ (by decide), o _ 1 5 _ (by decide), o _ 1 4 _ (by decide), o _ 1 3 _ (by decide), o _ 1 2 _ (by decide)]; exact s _ 1 _ x1 (by rw [o _ 1 0 _ (by decide)]; exact h1)
  · rw [o _ 2 7 _ (by decide), o _ 2 6 _ (by decide), o _ 2 5 _ (by decide), o _ 2 4 _ (by decide), o _ 2 3 _ (by decide)]; exact s _ 2 _ x2 (by rw [o _ 2 1 _ (by decide), o _ 2 0 _ (by decide)]; exact h2)
  · rw [o _ 3 7 _ (by decide), o _ 3 6 _ (by decide), o _ 3 5 _ (by decide), o _ 3 4 _ (by decide)]; exact s _ 3 _ x3 (by rw [o _ 3 2 _ (by decide), o _ 3 1 _ (by decide), o _ 3 0 _ (by decide)]; exact h3)
  · rw [o _ 4 7 _ (by decide), o _ 4 6 _ (by decide), o _ 4 5 _ (by decide)]; exact s _ 4 _ x4 (by rw [o _ 4 3 _ (by decide), o _ 4 2 _ (by decide), o _ 4 1 _ (by decide), o _ 4 0 _ (by decide)]; exact h4)
  · rw [o _ 5 7 _ (by decide), o _ 5 6 _ (by decide)]; exact s _ 5 _ x5 (by rw [o _ 5 4 _ (by decide), o _ 5 3 _ (by decide), o _ 5 2 _ (by decide), o _ 5 1 _ (by decide), o _ 5 0 _ (by decide)]; exact h5)
  · rw [o _ 6 7 _ (by decide)]; exact s _ 6 _ x6 (by rw [o _ 6 5 _ (by decide), o _ 6 4 _ (by decide), o _ 6 3 _ (by decide), o _ 6 2 _ (by decide), o _ 6 1 _ (by decide), o _ 6 0 _ (by decide)]; exact h6)
  · exact s _ 7 _ x7 (by rw [o _ 7 6 _ (by decide), o _ 7 5 _ (by decide), o _ 7 4 _ (by decide), o _ 7 3 _ (by decide), o _ 7 2 _ (by decide), o _ 7 1 _ (by decide), o _ 7 0 _ (by decide)]; exact h7)
  · simp only [World.frozen?_setCell]; exact hf k hk
  · simpa [World.setCell] using hl
theorem Eig.putB {b B : Nat} {w W : World} (h : Below B w W) (hb : B ≤ b) (y0 y1 y2 y3 y4 y5 y6 y7 : Value) : Below B w ((((((((W.setCell ⟨b, 0, none⟩ y0).setCell ⟨b, 1, none⟩ y1).setCell ⟨b, 2, none⟩ y2).setCell ⟨b, 3, none⟩ y3).setCell ⟨b, 4, none⟩ y4).setCell ⟨b, 5, none⟩ y5).setCell ⟨b, 6, none⟩ y6).setCell ⟨b, 7, none⟩ y7) :=
  ((((((((h.setCell (p := ⟨b, 0, none⟩) hb _).setCell (p := ⟨b, 1, none⟩) hb _).setCell (p := ⟨b, 2, none⟩) hb _).setCell (p := ⟨b, 3, none⟩) hb _).setCell (p := ⟨b, 4, none⟩) hb _).setCell (p := ⟨b, 5, none⟩) hb _).setCell (p := ⟨b, 6, none⟩) hb _).setCell (p := ⟨b, 7, none⟩) hb _)
end Go.Proofs.YtdpkochkpcjioabDoor

