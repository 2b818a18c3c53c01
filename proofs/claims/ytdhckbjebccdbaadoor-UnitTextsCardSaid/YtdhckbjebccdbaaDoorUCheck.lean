/- Package unit: Check. -/
import Derived.Test.YtdhckbjebccdbaaDoorUnits
namespace Go.Proofs.YtdhckbjebccdbaaDoor
open Go.RowKit

theorem gPow : Tryd.prog.globalNamed "internal/strconv.uint64pow10" = some 2 := by kernel_rfl
theorem gRng : Tryd.prog.globalNamed "spile/unit.ranges" = some 0 := by kernel_rfl
/-- the listed variables: the table of Itoa, the ranges, the variable of Index -/
def LaidU (w : World) : Prop := Lib.TabIs Tryd.prog w "internal/strconv.uint64pow10" .u64 Lib.pow10Tab ∧
  (∀ i : Nat, 1 ≤ i → i ≤ 7 → w.cell? ⟨0, i * 2, none⟩ = some (.int .i64 (loK i)) ∧ w.cell? ⟨0, i * 2 + 1, none⟩ = some (.int .i64 (hiK i))) ∧
  ∃ m, w.cell? ⟨1, 0, none⟩ = some (.int .i64 m)
theorem LaidU.below {w w' : World} (h : LaidU w) (hb : Below w.heap.size w w') : LaidU w' := by
  obtain ⟨h1, h2, m, h3⟩ := h
  have b2 := World.block_lt_of_cell? w _ (h2 1 (by omega) (by omega)).1
  have b3 := World.block_lt_of_cell? w _ h3
  refine ⟨tab_keep _ gPow (by rw [Lib.pow10Tab_length]; omega) h1 hb, fun i i1 i2 => ?_, m, ?_⟩
  · rw [(bcell hb).1 _ _ b2, (bcell hb).1 _ _ b2]; exact h2 i i1 i2
  · rw [(bcell hb).1 _ _ b3]; exact h3

theorem check_kind (k a : Int) (w : World) (h : k < 1 ∨ 7 < k) :
    Calls Tryd.prog 15 #[.agg #[.int .i64 k, .int .i64 a]] w fun e w' => e = .returned (.int .i64 1) ∧ Below w.heap.size w w' := by
  rcases h with h | h
  all_goals
    go_enter Tryd.func15, Tryd.ntmps15
    go_wp2
    go_returns
    exact ⟨rfl, bel_alloc (Below.refl _ _)⟩

theorem check_core (i : Nat) (a L H E : Int) (w : World) (i1 : 1 ≤ i) (i2 : i ≤ 7) (c0 : w.cell? ⟨0, i * 2, none⟩ = some (.int .i64 L)) (c1 : w.cell? ⟨0, i * 2 + 1, none⟩ = some (.int .i64 H))
    (h : (a < L ∧ E = 2) ∨ (L ≤ a ∧ H < a ∧ E = 2) ∨ (L ≤ a ∧ a ≤ H ∧ E = 0)) :
    Calls Tryd.prog 15 #[.agg #[.int .i64 i, .int .i64 a]] w fun e w' => e = .returned (.int .i64 E) ∧ Below w.heap.size w w' := by
  have hz := World.block_lt_of_cell? w _ c0
  have g0 : ∀ o, (w.alloc o).cell? ⟨0, i * 2, none⟩ = some (.int .i64 L) := fun o => by rw [World.cell?_alloc_lt w o _ hz, c0]
  have g1 : ∀ o, (w.alloc o).cell? ⟨0, i * 2 + 1, none⟩ = some (.int .i64 H) := fun o => by rw [World.cell?_alloc_lt w o _ (show 0 < w.heap.size from hz), c1]
  clear c0 c1 hz
  rcases h with ⟨h, rfl⟩ | ⟨h, h2, rfl⟩ | ⟨h, h2, rfl⟩
  all_goals
    go_enter Tryd.func15, Tryd.ntmps15
    go_wp2
    go_returns
    exact ⟨rfl, bel_alloc (bel_alloc (Below.refl _ _))⟩

theorem check_any (k a : Int) (w : World) (hw : LaidU w) :
    Calls Tryd.prog 15 #[.agg #[.int .i64 k, .int .i64 a]] w fun e w' => e = .returned (.int .i64 (qE k a)) ∧ Below w.heap.size w w' := by
  unfold qE
  by_cases h : k < 1 ∨ 7 < k
  · rw [if_pos h]; exact check_kind k a w h
  · rw [if_neg h]
    obtain ⟨i, rfl⟩ := Int.eq_ofNat_of_zero_le (show 0 ≤ k by omega)
    obtain ⟨c0, c1⟩ := hw.2.1 i (by omega) (by omega)
    refine check_core i a _ _ _ w (by omega) (by omega) c0 c1 ?_
    split <;> omega
end Go.Proofs.YtdhckbjebccdbaaDoor
