/- Copies of slices of integers, turned ones, the least and the greatest. -/
import Derived.Test.YtigmpbipbkgnfaaDoorNums
import Derived.Test.YtigmpbipbkgnfaaDoorTS
import Derived.Test.YtigmpbipbkgnfaaDoorShelf
import Derived.Laws.IdiomCopy
namespace Go.Proofs.YtigmpbipbkgnfaaDoor
open Go.RowKit

theorem nums_of_row {w : World} {B n : Nat} {v : Value} {zs : List Int} (h : w.ownsRow B 3 1 v n (zs.map (Value.int .i64))) : Nums w v zs := by
  have hl : zs.length = n := by have := h.1; simpa using this
  obtain ⟨_, h2⟩ := h
  rcases h2 with ⟨rfl, rfl⟩ | ⟨g, cap, cur, rfl, hg, hh, hc, hm, hs, ht⟩
  · exact ⟨none, 0, by rw [hl], by omega, .inl hl⟩
  · have hlt : g < w.heap.size := by
      rcases Nat.lt_or_ge g w.heap.size with h | h
      · exact h
      · rw [Array.getElem?_eq_none h] at hh; cases hh
    refine ⟨some ⟨g, 0, none⟩, cap, by rw [hl], ⟨by omega, by unfold maxLen at hm; omega⟩, .inr ⟨g, 0, rfl, hlt, fun j hj => ?_⟩⟩
    have hrow : w.ownsRow B 3 1 (.slice (some ⟨g, 0, none⟩) n cap) n (zs.map (Value.int .i64)) := ⟨by simp [hl], .inr ⟨g, cap, cur, rfl, hg, hh, hc, hm, hs, ht⟩⟩
    rw [Nat.zero_add, World.ownsRow.cellAt hrow j (by omega)]
    simp [List.getD, List.getElem?_eq_getElem hj]

/-- a copy reads as what it is copied from, and belongs to the call -/
theorem clone_own (v : Value) (zs : List Int) (w : World) (h : Nums w v zs) (hn : zs.length ≤ 1000) :
    Calls Tryd.prog 19 #[v] w fun e w' => ∃ u, e = .returned u ∧ w'.ownsRow w.heap.size 3 1 u zs.length (zs.map (Value.int .i64)) ∧ Below w.heap.size w w' := by
  obtain ⟨a, c, rfl, hl, h⟩ := h
  by_cases h0 : zs.length = 0
  · obtain rfl := List.length_eq_zero_iff.1 h0
    cases a with
    | none => refine (Tryd.slices_Clone_int_nil _ c w).mono fun _ w' g => ⟨_, g.1, ?_, by rw [g.2]; exact Below.refl _ _⟩
              rw [g.2]; exact World.ownsRow_nil _ _ _ _
    | some a => exact (Tryd.slices_Clone_int_zero a c w).mono fun _ w' ⟨v', g1, g2, _, g4⟩ => ⟨v', g1, g2, g4⟩
  · rcases h with h | ⟨b, off, rfl, _, hc⟩
    · exact absurd h h0
    refine (Tryd.slices_Clone_int b off zs.length c zs w (Nat.le_refl _) (by omega) hc).mono fun _ w' ⟨v', g1, g2, _, g4⟩ => ⟨v', g1, ?_, g4⟩
    rw [List.take_length] at g2; exact g2
theorem clone_nums (v : Value) (zs : List Int) (w : World) (h : Nums w v zs) (hn : zs.length ≤ 1000) :
    Calls Tryd.prog 19 #[v] w fun e w' => ∃ u, e = .returned u ∧ Nums w' u zs ∧ Below w.heap.size w w' :=
  (clone_own v zs w h hn).mono fun _ w' ⟨u, g1, g2, g3⟩ => ⟨u, g1, nums_of_row g2, g3⟩

theorem set_size (b : Nat) : ∀ (vs : List Value) (o : Nat) (w : World), (w.setCells b o vs).heap.size = w.heap.size
  | [], _, _ => rfl
  | v :: r, o, w => by rw [World.setCells, set_size b r]; simp [World.setCell]
theorem below_cells {B g : Nat} (hg : B ≤ g) : ∀ (vs : List Value) (o : Nat) (w : World), Below B w (w.setCells g o vs)
  | [], _, _ => Below.refl _ _
  | v :: r, o, w => ((Below.refl B w).setCell (p := ⟨g, o, none⟩) hg v).trans (below_cells hg r (o + 1) _)

/-- a row of the call's own is turned -/
theorem rev_own (B : Nat) (v : Value) (zs : List Int) (w : World) (h : w.ownsRow B 3 1 v zs.length (zs.map (Value.int .i64))) (hn : zs.length ≤ 1000) :
    Calls Tryd.prog 21 #[v] w fun e w' => e = .returned (.tuple #[]) ∧ Nums w' v zs.reverse ∧ Below B w w' := by
  have hN := nums_of_row h
  obtain ⟨h1, h2⟩ := h
  rcases h2 with ⟨rfl, h0⟩ | ⟨g, cap, cur, rfl, hg, hh, hc, hm, hs, ht⟩
  · obtain rfl := List.length_eq_zero_iff.1 h0
    refine (Tryd.slices_Reverse_int_empty none 0 w).mono fun _ w' g => ⟨g.1, ?_, by rw [g.2]; exact Below.refl _ _⟩
    rw [g.2]; exact hN
  · by_cases h0 : zs.length = 0
    · obtain rfl := List.length_eq_zero_iff.1 h0
      refine (Tryd.slices_Reverse_int_empty (some ⟨g, 0, none⟩) cap w).mono fun _ w' g => ⟨g.1, ?_, by rw [g.2]; exact Below.refl _ _⟩
      rw [g.2]; exact hN
    · obtain ⟨a, cp, e, hl, h⟩ := hN
      simp only [Value.slice.injEq] at e
      obtain ⟨rfl, _, rfl⟩ := e
      rcases h with h | ⟨b, off, e, hlt, hcell⟩
      · exact absurd h h0
      · simp only [Option.some.injEq, Addr.mk.injEq] at e
        obtain ⟨rfl, rfl, _⟩ := e
        have hfz : ∀ j, w.frozen? ⟨g, 0 + j, none⟩ = false := fun j => by
          simp [World.frozen?, hh]
        refine (Tryd.slices_Reverse_int_cells g 0 zs.length cap zs w (Nat.le_refl _) (by omega) hcell (fun j _ => hfz j)).mono ?_
        rintro e w' ⟨rfl, q, rfl⟩
        rw [List.take_length]
        refine ⟨rfl, ⟨some ⟨g, 0, none⟩, cap, by rw [List.length_reverse], by rw [List.length_reverse]; exact hl, .inr ⟨g, 0, rfl, ?_, fun j hj => ?_⟩⟩, ?_⟩
        · rw [set_size]; exact hlt
        · rw [List.length_reverse] at hj
          have hj2 : j < (zs.reverse.map (Value.int .i64)).length := by simpa using hj
          rw [World.cell?_setCells_in g _ 0 _ (fun i hi => by
            have hi2 : i < zs.length := by simpa using hi
            have := hcell i hi2
            show ((w.drewN q).cell? _).isSome = true
            rw [show (w.drewN q).cell? ⟨g, 0 + i, none⟩ = w.cell? ⟨g, 0 + i, none⟩ from rfl, this]; rfl) j hj2]
          simp [List.getD, List.getElem?_eq_getElem (show j < zs.reverse.length by simpa using hj)]
        · exact (show Below B w (w.drewN q) from ⟨rfl, rfl, rfl, Nat.le_refl _, fun _ _ => rfl⟩).trans (below_cells hg _ _ _)

theorem min_le (zs : List Int) (a : Int) : zs.foldl min a ≤ a ∧ ∀ x ∈ zs, zs.foldl min a ≤ x := by
  induction zs generalizing a with
  | nil => exact ⟨Int.le_refl _, by simp⟩
  | cons z zs ih =>
    obtain ⟨h1, h2⟩ := ih (min a z)
    rw [List.foldl_cons]
    refine ⟨by omega, fun x hx => ?_⟩
    rcases List.mem_cons.1 hx with rfl | hx
    · omega
    · exact h2 x hx
theorem le_max (zs : List Int) (a : Int) : a ≤ zs.foldl max a ∧ ∀ x ∈ zs, x ≤ zs.foldl max a := by
  induction zs generalizing a with
  | nil => exact ⟨Int.le_refl _, by simp⟩
  | cons z zs ih =>
    obtain ⟨h1, h2⟩ := ih (max a z)
    rw [List.foldl_cons]
    refine ⟨by omega, fun x hx => ?_⟩
    rcases List.mem_cons.1 hx with rfl | hx
    · omega
    · exact h2 x hx
theorem me_minmax {l : List Int} {rule : Int} (h : meE l rule = 0) : Lib.minOf l ≤ meQ l rule ∧ meQ l rule ≤ Lib.maxOf l :=
  me_between h fun x hx => ⟨(min_le l _).2 x hx, (le_max l _).2 x hx⟩

theorem min_any (v : Value) (zs : List Int) (w : World) (h : Nums w v zs) (h0 : 0 < zs.length) :
    Calls Tryd.prog 22 #[v] w fun e w' => e = .returned (.int .i64 (Lib.minOf zs)) ∧ w = w' := by
  obtain ⟨a, c, rfl, hl, h⟩ := h
  rcases h with h | ⟨b, off, rfl, _, hc⟩
  · omega
  refine (Tryd.slices_Min_int b off zs.length c zs w h0 (Nat.le_refl _) (by omega) hc).mono fun _ w' g => ⟨?_, g.2.symm⟩
  rw [g.1, List.take_length]
theorem max_any (v : Value) (zs : List Int) (w : World) (h : Nums w v zs) (h0 : 0 < zs.length) :
    Calls Tryd.prog 23 #[v] w fun e w' => e = .returned (.int .i64 (Lib.maxOf zs)) ∧ w = w' := by
  obtain ⟨a, c, rfl, hl, h⟩ := h
  rcases h with h | ⟨b, off, rfl, _, hc⟩
  · omega
  refine (Tryd.slices_Max_int b off zs.length c zs w h0 (Nat.le_refl _) (by omega) hc).mono fun _ w' g => ⟨?_, g.2.symm⟩
  rw [g.1, List.take_length]
end Go.Proofs.YtigmpbipbkgnfaaDoor
