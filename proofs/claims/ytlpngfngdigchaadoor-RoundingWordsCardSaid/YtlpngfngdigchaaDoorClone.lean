/- A copy of a slice of integers. -/
import Derived.Test.YtlpngfngdigchaaDoorTot
import Derived.Test.YtlpngfngdigchaaDoorShelf
import Derived.Lib.ItoaNum
namespace Go.Proofs.YtlpngfngdigchaaDoor
open Go.RowKit

theorem ins_of_row {w : World} {B n : Nat} {v : Value} {zs : List Int} (h : w.ownsRow B 3 1 v n (zs.map (Value.int .i64))) (hn : n ≤ 1000000) : Ins w v zs := by
  have hl : zs.length = n := by have := h.1; simpa using this
  obtain ⟨_, h2⟩ := h
  rcases h2 with ⟨rfl, rfl⟩ | ⟨g, cap, cur, rfl, hg, hh, hc, hm, hs, ht⟩
  · exact ⟨none, 0, by rw [hl], by omega, .inl hl⟩
  · have hlt : g < w.heap.size := by
      rcases Nat.lt_or_ge g w.heap.size with h | h
      · exact h
      · rw [Array.getElem?_eq_none h] at hh; cases hh
    refine ⟨some ⟨g, 0, none⟩, cap, by rw [hl], by omega, .inr ⟨g, 0, rfl, hlt, fun j hj => ?_⟩⟩
    have hrow : w.ownsRow B 3 1 (.slice (some ⟨g, 0, none⟩) n cap) n (zs.map (Value.int .i64)) := ⟨by simp [hl], .inr ⟨g, cap, cur, rfl, hg, hh, hc, hm, hs, ht⟩⟩
    rw [Nat.zero_add, World.ownsRow.cellAt hrow j (by omega)]
    simp [List.getD, List.getElem?_eq_getElem hj]

/-- a copy reads as what it is copied from, and belongs to the call -/
theorem clone_own (v : Value) (zs : List Int) (w : World) (h : Ins w v zs) (hn : zs.length ≤ 1000) :
    Calls Tryd.prog 18 #[v] w fun e w' => ∃ u, e = .returned u ∧ w'.ownsRow w.heap.size 3 1 u zs.length (zs.map (Value.int .i64)) ∧ Below w.heap.size w w' := by
  obtain ⟨a, c, rfl, hl, h⟩ := h
  by_cases h0 : zs.length = 0
  · obtain rfl := List.length_eq_zero_iff.1 h0
    cases a with
    | none => refine (Tryd.slices_Clone_int_nil _ c w).mono fun _ w' g => ⟨_, g.1, ?_, by rw [g.2]; exact Below.refl _ _⟩
              rw [g.2]; exact World.ownsRow_nil _ _ _ _
    | some a => exact (Tryd.slices_Clone_int_zero a c w).mono fun _ w' ⟨v', g1, g2, _, g4⟩ => ⟨v', g1, g2, g4⟩
  · rcases h with h | ⟨b, off, rfl, _, hc⟩
    · exact absurd h h0
    refine (Tryd.slices_Clone_int b off zs.length c zs w (Nat.le_refl _) (by omega) hc).mono fun _ w' ⟨v', g1, g2, _, g4⟩ => ⟨v', g1, ?_, g4⟩
    rw [List.take_length] at g2; exact g2

theorem clone_any (v : Value) (zs : List Int) (w : World) (h : Ins w v zs) (hn : zs.length ≤ 1000) :
    Calls Tryd.prog 18 #[v] w fun e w' => ∃ u, e = .returned u ∧ Ins w' u zs ∧ Below w.heap.size w w' :=
  (clone_own v zs w h hn).mono fun _ w' ⟨u, g1, g2, g3⟩ => ⟨u, g1, ins_of_row g2 (by omega), g3⟩

end Go.Proofs.YtlpngfngdigchaaDoor
