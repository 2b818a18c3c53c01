/- The reference of layer 3: names, factors. -/
import Derived.Test.YtdhckbjebccdbaaDoorULaw
namespace Go.Proofs.YtdhckbjebccdbaaDoor
open Go.RowKit

/-- the names of the units of a kind, and their factors -/
def kN (k : Int) : List (List UInt8) := if k = 1 then [[109, 108], [99, 108], [108], [104, 108]] else if k = 2 then [[37]] else if k = 3 then [[109, 108, 112, 97], [108, 112, 97]] else if k = 4 then [[103], [107, 103]] else if k = 5 then [[67]] else if k = 6 then [[109, 109], [99, 109], [109]] else [[99, 111, 105, 110], [99, 114, 111, 119, 110]]
def kF (k : Int) : List Int := if k = 1 then [1, 10, 1000, 100000] else if k = 2 then [100] else if k = 3 then [10000, 10000000] else if k = 4 then [100000, 100000000] else if k = 5 then [10] else if k = 6 then [10, 100, 10000] else [1, 100]

theorem cell_top (w : World) (cs : Array Value) (t : TypeId) (b i : Nat) (h : b = w.heap.size) : (w.alloc (.cells cs t)).cell? ⟨b, i, none⟩ = cs[i]? := by subst h; rw [World.cell?_alloc_new]
theorem cell_skip (w : World) (o : Obj) (b i : Nat) (h : b < w.heap.size) : (w.alloc o).cell? ⟨b, i, none⟩ = w.cell? ⟨b, i, none⟩ := World.cell?_alloc_lt w o _ h

theorem asz (W : World) (o : Obj) : (W.alloc o).heap.size = W.heap.size + 1 := by simp

set_option maxHeartbeats 4000000 in
theorem refNames_any (k : Int) (w : World) (h1 : 1 ≤ k) (h2 : k ≤ 7) :
    Calls Tryd.prog 29 #[.int .i64 k] w fun e w' => ∃ b, e = .returned (.slice (some ⟨b, 0, none⟩) (kN k).length (kN k).length) ∧ Below w.heap.size w w' ∧ b < w'.heap.size ∧ ∀ i, i < (kN k).length → w'.cell? ⟨b, i, none⟩ = some (str ((kN k).getD i [])) := by
  have h : k = 1 ∨ k = 2 ∨ k = 3 ∨ k = 4 ∨ k = 5 ∨ k = 6 ∨ k = 7 := by omega
  rcases h with rfl | rfl | rfl | rfl | rfl | rfl | rfl
  · go_enter Tryd.func29, Tryd.ntmps29
    go_wp2
    go_ret
    refine ⟨_, rfl, bel_alloc (bel_alloc (bel_alloc (bel_alloc (bel_alloc (bel_alloc (bel_alloc (bel_alloc (Below.refl _ _)))))))), by simp only [asz]; omega, fun i hi => ?_⟩
    replace hi : i < 4 := hi
    rw [cell_skip _ _ _ _ (by simp only [asz]; omega), cell_skip _ _ _ _ (by simp only [asz]; omega), cell_skip _ _ _ _ (by simp only [asz]; omega), cell_skip _ _ _ _ (by simp only [asz]; omega), cell_skip _ _ _ _ (by simp only [asz]; omega), cell_skip _ _ _ _ (by simp only [asz]; omega), cell_skip _ _ _ _ (by simp only [asz]; omega), cell_top _ _ _ _ _ (by simp only [asz])]
    rcases (show i = 0 ∨ i = 1 ∨ i = 2 ∨ i = 3 by omega) with rfl | rfl | rfl | rfl <;> rfl
  · go_enter Tryd.func29, Tryd.ntmps29
    go_wp2
    go_ret
    refine ⟨_, rfl, bel_alloc (bel_alloc (bel_alloc (bel_alloc (bel_alloc (bel_alloc (bel_alloc (bel_alloc (Below.refl _ _)))))))), by simp only [asz]; omega, fun i hi => ?_⟩
    replace hi : i < 1 := hi
    rw [cell_skip _ _ _ _ (by simp only [asz]; omega), cell_skip _ _ _ _ (by simp only [asz]; omega), cell_skip _ _ _ _ (by simp only [asz]; omega), cell_skip _ _ _ _ (by simp only [asz]; omega), cell_skip _ _ _ _ (by simp only [asz]; omega), cell_skip _ _ _ _ (by simp only [asz]; omega), cell_top _ _ _ _ _ (by simp only [asz])]
    obtain rfl : i = 0 := by omega
    rfl
  · go_enter Tryd.func29, Tryd.ntmps29
    go_wp2
    go_ret
    refine ⟨_, rfl, bel_alloc (bel_alloc (bel_alloc (bel_alloc (bel_alloc (bel_alloc (bel_alloc (bel_alloc (Below.refl _ _)))))))), by simp only [asz]; omega, fun i hi => ?_⟩
    replace hi : i < 2 := hi
    rw [cell_skip _ _ _ _ (by simp only [asz]; omega), cell_skip _ _ _ _ (by simp only [asz]; omega), cell_skip _ _ _ _ (by simp only [asz]; omega), cell_skip _ _ _ _ (by simp only [asz]; omega), cell_skip _ _ _ _ (by simp only [asz]; omega), cell_top _ _ _ _ _ (by simp only [asz])]
    rcases (show i = 0 ∨ i = 1 by omega) with rfl | rfl <;> rfl
  · go_enter Tryd.func29, Tryd.ntmps29
    go_wp2
    go_ret
    refine ⟨_, rfl, bel_alloc (bel_alloc (bel_alloc (bel_alloc (bel_alloc (bel_alloc (bel_alloc (bel_alloc (Below.refl _ _)))))))), by simp only [asz]; omega, fun i hi => ?_⟩
    replace hi : i < 2 := hi
    rw [cell_skip _ _ _ _ (by simp only [asz]; omega), cell_skip _ _ _ _ (by simp only [asz]; omega), cell_skip _ _ _ _ (by simp only [asz]; omega), cell_skip _ _ _ _ (by simp only [asz]; omega), cell_top _ _ _ _ _ (by simp only [asz])]
    rcases (show i = 0 ∨ i = 1 by omega) with rfl | rfl <;> rfl
  · go_enter Tryd.func29, Tryd.ntmps29
    go_wp2
    go_ret
    refine ⟨_, rfl, bel_alloc (bel_alloc (bel_alloc (bel_alloc (bel_alloc (bel_alloc (bel_alloc (bel_alloc (Below.refl _ _)))))))), by simp only [asz]; omega, fun i hi => ?_⟩
    replace hi : i < 1 := hi
    rw [cell_skip _ _ _ _ (by simp only [asz]; omega), cell_skip _ _ _ _ (by simp only [asz]; omega), cell_skip _ _ _ _ (by simp only [asz]; omega), cell_top _ _ _ _ _ (by simp only [asz])]
    obtain rfl : i = 0 := by omega
    rfl
  · go_enter Tryd.func29, Tryd.ntmps29
    go_wp2
    go_ret
    refine ⟨_, rfl, bel_alloc (bel_alloc (bel_alloc (bel_alloc (bel_alloc (bel_alloc (bel_alloc (bel_alloc (Below.refl _ _)))))))), by simp only [asz]; omega, fun i hi => ?_⟩
    replace hi : i < 3 := hi
    rw [cell_skip _ _ _ _ (by simp only [asz]; omega), cell_skip _ _ _ _ (by simp only [asz]; omega), cell_top _ _ _ _ _ (by simp only [asz])]
    rcases (show i = 0 ∨ i = 1 ∨ i = 2 by omega) with rfl | rfl | rfl <;> rfl
  · go_enter Tryd.func29, Tryd.ntmps29
    go_wp2
    go_ret
    refine ⟨_, rfl, bel_alloc (bel_alloc (bel_alloc (bel_alloc (bel_alloc (bel_alloc (bel_alloc (bel_alloc (Below.refl _ _)))))))), by simp only [asz]; omega, fun i hi => ?_⟩
    replace hi : i < 2 := hi
    rw [cell_skip _ _ _ _ (by simp only [asz]; omega), cell_top _ _ _ _ _ (by simp only [asz])]
    rcases (show i = 0 ∨ i = 1 by omega) with rfl | rfl <;> rfl
set_option maxHeartbeats 4000000 in
theorem refFacs_any (k : Int) (w : World) (h1 : 1 ≤ k) (h2 : k ≤ 7) :
    Calls Tryd.prog 30 #[.int .i64 k] w fun e w' => ∃ b, e = .returned (.slice (some ⟨b, 0, none⟩) (kF k).length (kF k).length) ∧ Below w.heap.size w w' ∧ b < w'.heap.size ∧ ∀ i, i < (kF k).length → w'.cell? ⟨b, i, none⟩ = some (.int .i64 ((kF k).getD i 0)) := by
  have h : k = 1 ∨ k = 2 ∨ k = 3 ∨ k = 4 ∨ k = 5 ∨ k = 6 ∨ k = 7 := by omega
  rcases h with rfl | rfl | rfl | rfl | rfl | rfl | rfl
  · go_enter Tryd.func30, Tryd.ntmps30
    go_wp2
    go_ret
    refine ⟨_, rfl, bel_alloc (bel_alloc (bel_alloc (bel_alloc (bel_alloc (bel_alloc (bel_alloc (bel_alloc (Below.refl _ _)))))))), by simp only [asz]; omega, fun i hi => ?_⟩
    replace hi : i < 4 := hi
    rw [cell_skip _ _ _ _ (by simp only [asz]; omega), cell_skip _ _ _ _ (by simp only [asz]; omega), cell_skip _ _ _ _ (by simp only [asz]; omega), cell_skip _ _ _ _ (by simp only [asz]; omega), cell_skip _ _ _ _ (by simp only [asz]; omega), cell_skip _ _ _ _ (by simp only [asz]; omega), cell_skip _ _ _ _ (by simp only [asz]; omega), cell_top _ _ _ _ _ (by simp only [asz])]
    rcases (show i = 0 ∨ i = 1 ∨ i = 2 ∨ i = 3 by omega) with rfl | rfl | rfl | rfl <;> rfl
  · go_enter Tryd.func30, Tryd.ntmps30
    go_wp2
    go_ret
    refine ⟨_, rfl, bel_alloc (bel_alloc (bel_alloc (bel_alloc (bel_alloc (bel_alloc (bel_alloc (bel_alloc (Below.refl _ _)))))))), by simp only [asz]; omega, fun i hi => ?_⟩
    replace hi : i < 1 := hi
    rw [cell_skip _ _ _ _ (by simp only [asz]; omega), cell_skip _ _ _ _ (by simp only [asz]; omega), cell_skip _ _ _ _ (by simp only [asz]; omega), cell_skip _ _ _ _ (by simp only [asz]; omega), cell_skip _ _ _ _ (by simp only [asz]; omega), cell_skip _ _ _ _ (by simp only [asz]; omega), cell_top _ _ _ _ _ (by simp only [asz])]
    obtain rfl : i = 0 := by omega
    rfl
  · go_enter Tryd.func30, Tryd.ntmps30
    go_wp2
    go_ret
    refine ⟨_, rfl, bel_alloc (bel_alloc (bel_alloc (bel_alloc (bel_alloc (bel_alloc (bel_alloc (bel_alloc (Below.refl _ _)))))))), by simp only [asz]; omega, fun i hi => ?_⟩
    replace hi : i < 2 := hi
    rw [cell_skip _ _ _ _ (by simp only [asz]; omega), cell_skip _ _ _ _ (by simp only [asz]; omega), cell_skip _ _ _ _ (by simp only [asz]; omega), cell_skip _ _ _ _ (by simp only [asz]; omega), cell_skip _ _ _ _ (by simp only [asz]; omega), cell_top _ _ _ _ _ (by simp only [asz])]
    rcases (show i = 0 ∨ i = 1 by omega) with rfl | rfl <;> rfl
  · go_enter Tryd.func30, Tryd.ntmps30
    go_wp2
    go_ret
    refine ⟨_, rfl, bel_alloc (bel_alloc (bel_alloc (bel_alloc (bel_alloc (bel_alloc (bel_alloc (bel_alloc (Below.refl _ _)))))))), by simp only [asz]; omega, fun i hi => ?_⟩
    replace hi : i < 2 := hi
    rw [cell_skip _ _ _ _ (by simp only [asz]; omega), cell_skip _ _ _ _ (by simp only [asz]; omega), cell_skip _ _ _ _ (by simp only [asz]; omega), cell_skip _ _ _ _ (by simp only [asz]; omega), cell_top _ _ _ _ _ (by simp only [asz])]
    rcases (show i = 0 ∨ i = 1 by omega) with rfl | rfl <;> rfl
  · go_enter Tryd.func30, Tryd.ntmps30
    go_wp2
    go_ret
    refine ⟨_, rfl, bel_alloc (bel_alloc (bel_alloc (bel_alloc (bel_alloc (bel_alloc (bel_alloc (bel_alloc (Below.refl _ _)))))))), by simp only [asz]; omega, fun i hi => ?_⟩
    replace hi : i < 1 := hi
    rw [cell_skip _ _ _ _ (by simp only [asz]; omega), cell_skip _ _ _ _ (by simp only [asz]; omega), cell_skip _ _ _ _ (by simp only [asz]; omega), cell_top _ _ _ _ _ (by simp only [asz])]
    obtain rfl : i = 0 := by omega
    rfl
  · go_enter Tryd.func30, Tryd.ntmps30
    go_wp2
    go_ret
    refine ⟨_, rfl, bel_alloc (bel_alloc (bel_alloc (bel_alloc (bel_alloc (bel_alloc (bel_alloc (bel_alloc (Below.refl _ _)))))))), by simp only [asz]; omega, fun i hi => ?_⟩
    replace hi : i < 3 := hi
    rw [cell_skip _ _ _ _ (by simp only [asz]; omega), cell_skip _ _ _ _ (by simp only [asz]; omega), cell_top _ _ _ _ _ (by simp only [asz])]
    rcases (show i = 0 ∨ i = 1 ∨ i = 2 by omega) with rfl | rfl | rfl <;> rfl
  · go_enter Tryd.func30, Tryd.ntmps30
    go_wp2
    go_ret
    refine ⟨_, rfl, bel_alloc (bel_alloc (bel_alloc (bel_alloc (bel_alloc (bel_alloc (bel_alloc (bel_alloc (Below.refl _ _)))))))), by simp only [asz]; omega, fun i hi => ?_⟩
    replace hi : i < 2 := hi
    rw [cell_skip _ _ _ _ (by simp only [asz]; omega), cell_top _ _ _ _ _ (by simp only [asz])]
    rcases (show i = 0 ∨ i = 1 by omega) with rfl | rfl <;> rfl

/-- the names and factors of a kind are the table's -/
theorem kN_len (k : Int) (h1 : 1 ≤ k) (h2 : k ≤ 7) : (kN k).length = (kF k).length ∧ 1 ≤ (kN k).length ∧ (kN k).length ≤ 4 :=
  cases7 (P := fun k => (kN k).length = (kF k).length ∧ 1 ≤ (kN k).length ∧ (kN k).length ≤ 4) h1 h2 (by decide) (by decide) (by decide) (by decide) (by decide) (by decide) (by decide)
theorem kN_mem (k : Int) (h1 : 1 ≤ k) (h2 : k ≤ 7) : ∀ i, i < (kN k).length → ((kN k).getD i [], k, (kF k).getD i 0) ∈ unitTab :=
  cases7 (P := fun k => ∀ i, i < (kN k).length → ((kN k).getD i [], k, (kF k).getD i 0) ∈ unitTab) h1 h2 (by decide) (by decide) (by decide) (by decide) (by decide) (by decide) (by decide)
theorem kN_all : ∀ x ∈ unitTab, ∃ i, i < (kN x.2.1).length ∧ (kN x.2.1).getD i [] = x.1 ∧ (kF x.2.1).getD i 0 = x.2.2 := by
  have h : ∀ x ∈ unitTab, (List.range 4).any (fun i => decide (i < (kN x.2.1).length) && ((kN x.2.1).getD i [] == x.1) && ((kF x.2.1).getD i 0 == x.2.2)) = true := by decide
  intro x hx
  obtain ⟨i, _, hi⟩ := List.any_eq_true.1 (h x hx)
  simp only [Bool.and_eq_true, decide_eq_true_eq, beq_iff_eq] at hi
  exact ⟨i, hi.1.1, hi.1.2, hi.2⟩
theorem kF_up (k : Int) (h1 : 1 ≤ k) (h2 : k ≤ 7) : ∀ i, i < (kF k).length → ∀ j, j < i → (kF k).getD j 0 < (kF k).getD i 0 :=
  cases7 (P := fun k => ∀ i, i < (kF k).length → ∀ j, j < i → (kF k).getD j 0 < (kF k).getD i 0) h1 h2 (by decide) (by decide) (by decide) (by decide) (by decide) (by decide) (by decide)
theorem kN_bd (k : Int) (h1 : 1 ≤ k) (h2 : k ≤ 7) : ∀ i, i < (kN k).length → ((kN k).getD i []).length ≤ 5 ∧ 1 ≤ (kF k).getD i 0 ∧ (kF k).getD i 0 ≤ 100000000 :=
  cases7 (P := fun k => ∀ i, i < (kN k).length → ((kN k).getD i []).length ≤ 5 ∧ 1 ≤ (kF k).getD i 0 ∧ (kF k).getD i 0 ≤ 100000000) h1 h2 (by decide) (by decide) (by decide) (by decide) (by decide) (by decide) (by decide)
end Go.Proofs.YtdhckbjebccdbaaDoor
