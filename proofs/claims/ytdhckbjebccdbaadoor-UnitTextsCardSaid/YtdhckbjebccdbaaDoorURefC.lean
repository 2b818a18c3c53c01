/- The reference of layer 3: in, Check. -/
import Derived.Test.YtdhckbjebccdbaaDoorULaw
namespace Go.Proofs.YtdhckbjebccdbaaDoor
open Go.RowKit

set_option maxHeartbeats 4000000 in
theorem inB_core (k a L H : Int) (Q : Bool) (w : World) (hk : (k = 1 ∧ L = 0 ∧ H = 1073741824) ∨ (k = 2 ∧ L = 0 ∧ H = 10000) ∨ (k = 3 ∧ L = 0 ∧ H = 10737418240000) ∨ (k = 4 ∧ L = 0 ∧ H = 128849018880000) ∨ (k = 5 ∧ L = -400 ∧ H = 600) ∨ (k = 6 ∧ L = 0 ∧ H = 100000) ∨ (k = 7 ∧ L = 0 ∧ H = 1125899906842624))
    (h : (a < L ∧ Q = false) ∨ (L ≤ a ∧ H < a ∧ Q = false) ∨ (L ≤ a ∧ a ≤ H ∧ Q = true)) :
    Calls Tryd.prog 32 #[.agg #[.int .i64 k, .int .i64 a]] w fun e w' => e = .returned (.bool Q) ∧ Below w.heap.size w w' := by
  rcases hk with ⟨rfl, rfl, rfl⟩ | ⟨rfl, rfl, rfl⟩ | ⟨rfl, rfl, rfl⟩ | ⟨rfl, rfl, rfl⟩ | ⟨rfl, rfl, rfl⟩ | ⟨rfl, rfl, rfl⟩ | ⟨rfl, rfl, rfl⟩
  all_goals
    rcases h with ⟨h, rfl⟩ | ⟨h, h2, rfl⟩ | ⟨h, h2, rfl⟩
  all_goals
    go_enter Tryd.func32, Tryd.ntmps32
    go_wp2_with fail
    first | (go_region_with (fail)) | fail
  all_goals
    go_wp2
    go_returns
    first
      | exact ⟨rfl, bel_alloc (bel_alloc (bel_drew _))⟩
      | exact ⟨ret_bool (decide_eq_true h2), bel_alloc (bel_alloc (bel_drew _))⟩
      | exact ⟨ret_bool (decide_eq_false (by omega)), bel_alloc (bel_alloc (bel_drew _))⟩

theorem refIn_any (k a : Int) (w : World) (k1 : 1 ≤ k) (k2 : k ≤ 7) :
    Calls Tryd.prog 32 #[.agg #[.int .i64 k, .int .i64 a]] w fun e w' => e = .returned (.bool (qE k a == 0)) ∧ Below w.heap.size w w' := by
  refine inB_core k a (loK k) (hiK k) _ w ?_ ?_
  · have h : k = 1 ∨ k = 2 ∨ k = 3 ∨ k = 4 ∨ k = 5 ∨ k = 6 ∨ k = 7 := by omega
    rcases h with rfl | rfl | rfl | rfl | rfl | rfl | rfl <;> simp [loK, hiK]
  · unfold qE
    rw [if_neg (by omega)]
    by_cases h : a < loK k
    · left; exact ⟨h, by rw [if_pos (.inl h)]; rfl⟩
    · right
      by_cases h2 : hiK k < a
      · left; exact ⟨by omega, h2, by rw [if_pos (.inr h2)]; rfl⟩
      · right; exact ⟨by omega, by omega, by rw [if_neg (by omega)]; rfl⟩

theorem refCheck_bad (k a : Int) (w : World) (h : k < 1 ∨ 7 < k) :
    Calls Tryd.prog 16 #[.agg #[.int .i64 k, .int .i64 a]] w fun e w' => e = .returned (.int .i64 1) ∧ Below w.heap.size w w' := by
  rcases h with h | h
  · go_enter Tryd.func16, Tryd.ntmps16
    go_wp2
    go_returns
    exact ⟨rfl, bel_alloc (Below.refl _ _)⟩
  · have h1 : 1 ≤ k := by omega
    go_enter Tryd.func16, Tryd.ntmps16
    go_wp2
    go_returns
    exact ⟨rfl, bel_alloc (Below.refl _ _)⟩
theorem refCheck_good (k a : Int) (Q : Bool) (E : Int) (w : World) (k1 : 1 ≤ k) (k2 : k ≤ 7) (hE : (Q = true ∧ E = 0) ∨ (Q = false ∧ E = 2))
    (HI : Hid (∀ W, Calls Tryd.prog 32 #[.agg #[.int .i64 k, .int .i64 a]] W fun e w' => e = .returned (.bool Q) ∧ Below W.heap.size W w')) :
    Calls Tryd.prog 16 #[.agg #[.int .i64 k, .int .i64 a]] w fun e w' => e = .returned (.int .i64 E) ∧ Below w.heap.size w w' := by
  rcases hE with ⟨rfl, rfl⟩ | ⟨rfl, rfl⟩
  all_goals
    go_enter Tryd.func16, Tryd.ntmps16
    go_wp2_with fail
    refine (HI.out _).mono ?_
    rintro e w1 ⟨rfl, gg⟩
    have X1 := Lib.hid (bel_alloc gg); clear gg
    go_wp2
    go_returns
    exact ⟨rfl, X1.out⟩
theorem refCheck_any (k a : Int) (w : World) :
    Calls Tryd.prog 16 #[.agg #[.int .i64 k, .int .i64 a]] w fun e w' => e = .returned (.int .i64 (qE k a)) ∧ Below w.heap.size w w' := by
  by_cases h : k < 1 ∨ 7 < k
  · have e : qE k a = 1 := by unfold qE; rw [if_pos h]
    rw [e]; exact refCheck_bad k a w h
  · refine refCheck_good k a (qE k a == 0) _ w (by omega) (by omega) ?_ (fun W => refIn_any k a W (by omega) (by omega))
    unfold qE
    rw [if_neg h]
    split
    · right; exact ⟨rfl, rfl⟩
    · left; exact ⟨rfl, rfl⟩
end Go.Proofs.YtdhckbjebccdbaaDoor
