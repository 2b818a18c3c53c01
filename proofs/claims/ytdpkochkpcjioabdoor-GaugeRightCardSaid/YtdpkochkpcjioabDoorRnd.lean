/- Package rounding: the rules' decisions, and what they make of a quotient. -/
import Derived.Test.YtdpkochkpcjioabDoorOf
import Derived.Deep.RegionHeld3
import Derived.Laws.EntriesVeiled
import Derived.Deep.RegionWith
import Derived.Deep.DeepCutAuto
import Derived.Deep.CutBlock
namespace Go.Proofs.YtdpkochkpcjioabDoor
open Go.RowKit

theorem bcell {W w1 : World} (hb : Below W.heap.size W w1) : (∀ b o, b < W.heap.size → w1.cell? ⟨b, o, none⟩ = W.cell? ⟨b, o, none⟩) ∧ (∀ b o, b < W.heap.size → w1.frozen? ⟨b, o, none⟩ = W.frozen? ⟨b, o, none⟩) :=
  ⟨fun b o h => hb.cell (p := ⟨b, o, none⟩) h, fun b o h => hb.frozen (p := ⟨b, o, none⟩) h⟩
theorem ret_bool {a b : Bool} (h : a = b) : Ending.returned (.bool a) = .returned (.bool b) := by rw [h]
theorem ret_int {k : IntKind} {a b : Int} (h : a = b) : Ending.returned (.int k a) = .returned (.int k b) := by rw [h]
theorem bneq {x y : Int} (h : x ≠ y) : (x != y) = true := by rw [bne_iff_ne]; exact h

/-- a division as a value -/
abbrev dvn (q r b : Int) : Value := .agg #[.int .i64 q, .int .i64 r, .int .i64 b]
/-- a function without captured variables, as a value -/
abbrev fv (f : FuncId) : Value := .func (.func f) #[] #[]

theorem nearest_any (f : FuncId) (w : World) :
    Calls Tryd.prog 123 #[fv f] w fun e w' => e = .returned (.func (.func 134) #[] #[.pointer (some ⟨w.heap.size, 0, none⟩)]) ∧ w.alloc (.cells #[fv f] 136) = w' := by
  go_enter Tryd.func123, Tryd.ntmps123
  go_wp2
  go_returns
  exact ⟨rfl, rfl⟩

theorem choosers_any (w : World) :
    Calls Tryd.prog 112 #[] w fun e w' => ∃ b1 b2, e = .returned (.agg #[.nilFunc, fv 121, fv 122, .func (.func 134) #[] #[.pointer (some ⟨b1, 0, none⟩)], .func (.func 134) #[] #[.pointer (some ⟨b2, 0, none⟩)]])
      ∧ w'.cell? ⟨b1, 0, none⟩ = some (fv 124) ∧ w'.cell? ⟨b2, 0, none⟩ = some (fv 125) ∧ Below w.heap.size w w' := by
  go_enter Tryd.func112, Tryd.ntmps112
  go_wp2_with (go_at_call 123; refine (nearest_any _ _).mono ?_; rintro e w' ⟨rfl, rfl⟩)
  go_returns
  exact ⟨_, _, rfl, by simp [go_sem], by simp [go_sem], by go_grown⟩

theorem down_any (q r b : Int) (w : World) :
    Calls Tryd.prog 121 #[dvn q r b] w fun e w' => e = .returned (.bool false) ∧ Below w.heap.size w w' := by
  go_enter Tryd.func121, Tryd.ntmps121
  go_wp2
  go_ret
  exact ⟨rfl, by go_grown⟩
theorem up_any (q r b : Int) (w : World) :
    Calls Tryd.prog 122 #[dvn q r b] w fun e w' => e = .returned (.bool (decide (0 < r))) ∧ Below w.heap.size w w' := by
  go_enter Tryd.func122, Tryd.ntmps122
  go_wp2
  go_ret
  exact ⟨rfl, by go_grown⟩
theorem tieUp_any (q r b : Int) (w : World) :
    Calls Tryd.prog 124 #[dvn q r b] w fun e w' => e = .returned (.bool true) ∧ Below w.heap.size w w' := by
  go_enter Tryd.func124, Tryd.ntmps124
  go_wp2
  go_ret
  exact ⟨rfl, by go_grown⟩
theorem tieEven_any (q r b : Int) (w : World) :
    Calls Tryd.prog 125 #[dvn q r b] w fun e w' => e = .returned (.bool (q.tmod 2 != 0)) ∧ Below w.heap.size w w' := by
  go_enter Tryd.func125, Tryd.ntmps125
  go_wp2
  go_ret
  exact ⟨rfl, by go_grown⟩

/-- the decision for the nearest quotient; t decides between two of them -/
def nearB (r b : Int) (t : Bool) : Bool := decide (b - r < r) || (decide (b - r = r) && t)

theorem nearUp_any (q r b : Int) (g : Nat) (w : World) (hr0 : 0 ≤ r) (hr1 : r ≤ 9223372036854775807) (hb0 : 1 ≤ b) (hb1 : b ≤ 9223372036854775807) (hlt : r < b)
    (hc : w.cell? ⟨g, 0, none⟩ = some (fv 124)) :
    Calls Tryd.prog 134 #[dvn q r b, .pointer (some ⟨g, 0, none⟩)] w fun e w' => e = .returned (.bool (nearB r b true)) ∧ Below w.heap.size w w' := by
  have hg := World.block_lt_of_cell? w _ hc
  have hc2 := fun o => ((bcell ((Below.refl w.heap.size w).alloc (Nat.le_refl _) o)).1 g 0 hg).trans hc
  clear hc
  by_cases h1 : b - r < r
  · have hn : Hid (nearB r b true = true) := by show _ = _; unfold nearB; rw [decide_eq_true h1]; rfl
    rw [hn.out]
    go_enter Tryd.func134, Tryd.ntmps134
    go_wp2_with fail
    go_quiet (fail)
    go_wp2
    go_ret
    exact ⟨rfl, bel_alloc (bel_drewN _ _)⟩
  · by_cases h2 : b - r = r
    · have hn : Hid (nearB r b true = true) := by show _ = _; unfold nearB; rw [decide_eq_false h1, decide_eq_true h2]; simp
      rw [hn.out]
      have h3 : (b - r == r) = true := by rw [beq_iff_eq]; exact h2
      have H2 := Lib.hid h2; clear h2
      go_enter Tryd.func134, Tryd.ntmps134
      go_wp2_with fail
      go_quiet (fail)
      go_wp2_with fail
      refine (tieUp_any q r b _).mono ?_
      rintro e w' ⟨rfl, hb⟩
      go_wp2
      go_ret
      exact ⟨ret_bool (by first | rfl | (rw [decide_eq_false (show ¬ b - r < r by omega)]; done) | (rw [decide_eq_false (show ¬ b - r < r by omega)]; simp)), bel_trans (bel_alloc (bel_drewN _ _)) hb⟩
    · have hn : Hid (nearB r b true = false) := by show _ = _; unfold nearB; rw [decide_eq_false h1, decide_eq_false h2]; rfl
      rw [hn.out]
      have h3 : (b - r == r) = false := by rw [beq_eq_false_iff_ne]; exact h2
      go_enter Tryd.func134, Tryd.ntmps134
      go_wp2_with fail
      go_quiet (fail)
      go_wp2
      go_ret
      exact ⟨ret_bool (by first | rfl | (rw [decide_eq_false (show ¬ b - r < r by omega)]; done) | (rw [decide_eq_false (show ¬ b - r < r by omega)]; simp)), bel_alloc (bel_drewN _ _)⟩

theorem nearEven_any (q r b : Int) (g : Nat) (w : World) (hr0 : 0 ≤ r) (hr1 : r ≤ 9223372036854775807) (hb0 : 1 ≤ b) (hb1 : b ≤ 9223372036854775807) (hlt : r < b)
    (hc : w.cell? ⟨g, 0, none⟩ = some (fv 125)) :
    Calls Tryd.prog 134 #[dvn q r b, .pointer (some ⟨g, 0, none⟩)] w fun e w' => e = .returned (.bool (nearB r b (q.tmod 2 != 0))) ∧ Below w.heap.size w w' := by
  have hg := World.block_lt_of_cell? w _ hc
  have hc2 := fun o => ((bcell ((Below.refl w.heap.size w).alloc (Nat.le_refl _) o)).1 g 0 hg).trans hc
  clear hc
  by_cases h1 : b - r < r
  · have hn : Hid (nearB r b (q.tmod 2 != 0) = true) := by show _ = _; unfold nearB; rw [decide_eq_true h1]; rfl
    rw [hn.out]
    go_enter Tryd.func134, Tryd.ntmps134
    go_wp2_with fail
    go_quiet (fail)
    go_wp2
    go_ret
    exact ⟨rfl, bel_alloc (bel_drewN _ _)⟩
  · by_cases h2 : b - r = r
    · have hn : Hid (nearB r b (q.tmod 2 != 0) = (q.tmod 2 != 0)) := by show _ = _; unfold nearB; rw [decide_eq_false h1, decide_eq_true h2]; simp
      rw [hn.out]
      have h3 : (b - r == r) = true := by rw [beq_iff_eq]; exact h2
      have H2 := Lib.hid h2; clear h2
      go_enter Tryd.func134, Tryd.ntmps134
      go_wp2_with fail
      go_quiet (fail)
      go_wp2_with fail
      refine (tieEven_any q r b _).mono ?_
      rintro e w' ⟨rfl, hb⟩
      go_wp2
      go_ret
      exact ⟨ret_bool (by first | rfl | (rw [decide_eq_false (show ¬ b - r < r by omega)]; done) | (rw [decide_eq_false (show ¬ b - r < r by omega)]; simp)), bel_trans (bel_alloc (bel_drewN _ _)) hb⟩
    · have hn : Hid (nearB r b (q.tmod 2 != 0) = false) := by show _ = _; unfold nearB; rw [decide_eq_false h1, decide_eq_false h2]; rfl
      rw [hn.out]
      have h3 : (b - r == r) = false := by rw [beq_eq_false_iff_ne]; exact h2
      go_enter Tryd.func134, Tryd.ntmps134
      go_wp2_with fail
      go_quiet (fail)
      go_wp2
      go_ret
      exact ⟨ret_bool (by first | rfl | (rw [decide_eq_false (show ¬ b - r < r by omega)]; done) | (rw [decide_eq_false (show ¬ b - r < r by omega)]; simp)), bel_alloc (bel_drewN _ _)⟩


/-- whether a quotient that was rounded down has to be greater by 1 -/
def moreB (rule q r b : Int) : Bool :=
  if rule = 1 then false else if rule = 2 then decide (0 < r) else if rule = 3 then nearB r b true else nearB r b (q.tmod 2 != 0)

theorem idx1 (a b c d e : Value) (w : World) : (Instr.index 137 (.agg #[a, b, c, d, e]) (.int .i64 1)).run Tryd.prog w = .ok b w := by kernel_rfl
theorem idx2 (a b c d e : Value) (w : World) : (Instr.index 137 (.agg #[a, b, c, d, e]) (.int .i64 2)).run Tryd.prog w = .ok c w := by kernel_rfl
theorem idx3 (a b c d e : Value) (w : World) : (Instr.index 137 (.agg #[a, b, c, d, e]) (.int .i64 3)).run Tryd.prog w = .ok d w := by kernel_rfl
theorem idx4 (a b c d e : Value) (w : World) : (Instr.index 137 (.agg #[a, b, c, d, e]) (.int .i64 4)).run Tryd.prog w = .ok e w := by kernel_rfl

theorem round1_false (q r b : Int) (w : World) (q0 : -9223372036854775808 ≤ q) (q1 : q < 9223372036854775807) (hr0 : 0 ≤ r) (hb1 : b ≤ 9223372036854775807) (hlt : r < b) (ht : Hid (false = false)) :
    Calls Tryd.prog 101 #[dvn q r b, .int .i64 1] w fun e w' => e = .returned (.tuple #[.int .i64 (q), .int .i64 (r)]) ∧ Below w.heap.size w w' := by
  have hi := idx1
  have S0 : (w.alloc (.cells #[.int .i64 q, .int .i64 r, .int .i64 b] 122)).cell? ⟨w.heap.size, 0, none⟩ = some (.int .i64 q) := by simp [World.cell?_alloc_new]
  have S1 : (w.alloc (.cells #[.int .i64 q, .int .i64 r, .int .i64 b] 122)).cell? ⟨w.heap.size, 1, none⟩ = some (.int .i64 r) := by simp [World.cell?_alloc_new]
  have S2 : (w.alloc (.cells #[.int .i64 q, .int .i64 r, .int .i64 b] 122)).cell? ⟨w.heap.size, 2, none⟩ = some (.int .i64 b) := by simp [World.cell?_alloc_new]
  go_enter Tryd.func101, Tryd.ntmps101
  go_wp2_with fail
  have HB : Hid (Below w.heap.size w (w.alloc (.cells #[.int .i64 q, .int .i64 r, .int .i64 b] 122)).drew) := (bel_alloc (Below.refl _ _)).drew
  go_region_held3 (fun w' => w'.cell? ⟨w.heap.size, 0, none⟩ = some (.int .i64 q) ∧ w'.cell? ⟨w.heap.size, 1, none⟩ = some (.int .i64 r) ∧ w'.cell? ⟨w.heap.size, 2, none⟩ = some (.int .i64 b)) (go_keep)
    (first
      | (go_at_call 112; refine (choosers_any _).mono ?_; rintro e w2 ⟨b1, b2, rfl, k1, k2, hb⟩; have hs := fun o => (bcell hb).1 w.heap.size o (by simp); have z2 := hb.size; (try simp at z2); replace HB := Lib.hid (bel_trans HB.out hb); clear hb)
      | (go_at_call 121; refine (down_any q r b _).mono ?_; rintro e w3 ⟨rfl, hb⟩; have hs := fun o => (bcell hb).1 w.heap.size o (by omega); replace HB := Lib.hid (bel_trans HB.out hb); clear hb))
  go_wp2_with fail
  go_quiet (fail)
  go_wp2
  go_returns
  exact ⟨rfl, bel_trans HB.out (bel_drewN _ _)⟩

theorem round2_true (q r b : Int) (w : World) (q0 : -9223372036854775808 ≤ q) (q1 : q < 9223372036854775807) (hr0 : 0 ≤ r) (hb1 : b ≤ 9223372036854775807) (hlt : r < b) (ht : Hid (decide (0 < r) = true)) :
    Calls Tryd.prog 101 #[dvn q r b, .int .i64 2] w fun e w' => e = .returned (.tuple #[.int .i64 (q + 1), .int .i64 (r - b)]) ∧ Below w.heap.size w w' := by
  have hi := idx2
  have S0 : (w.alloc (.cells #[.int .i64 q, .int .i64 r, .int .i64 b] 122)).cell? ⟨w.heap.size, 0, none⟩ = some (.int .i64 q) := by simp [World.cell?_alloc_new]
  have S1 : (w.alloc (.cells #[.int .i64 q, .int .i64 r, .int .i64 b] 122)).cell? ⟨w.heap.size, 1, none⟩ = some (.int .i64 r) := by simp [World.cell?_alloc_new]
  have S2 : (w.alloc (.cells #[.int .i64 q, .int .i64 r, .int .i64 b] 122)).cell? ⟨w.heap.size, 2, none⟩ = some (.int .i64 b) := by simp [World.cell?_alloc_new]
  go_enter Tryd.func101, Tryd.ntmps101
  go_wp2_with fail
  have HB : Hid (Below w.heap.size w (w.alloc (.cells #[.int .i64 q, .int .i64 r, .int .i64 b] 122)).drew) := (bel_alloc (Below.refl _ _)).drew
  go_region_held3 (fun w' => w'.cell? ⟨w.heap.size, 0, none⟩ = some (.int .i64 q) ∧ w'.cell? ⟨w.heap.size, 1, none⟩ = some (.int .i64 r) ∧ w'.cell? ⟨w.heap.size, 2, none⟩ = some (.int .i64 b)) (go_keep)
    (first
      | (go_at_call 112; refine (choosers_any _).mono ?_; rintro e w2 ⟨b1, b2, rfl, k1, k2, hb⟩; have hs := fun o => (bcell hb).1 w.heap.size o (by simp); have z2 := hb.size; (try simp at z2); replace HB := Lib.hid (bel_trans HB.out hb); clear hb)
      | (go_at_call 122; refine (up_any q r b _).mono ?_; rw [ht.out]; rintro e w3 ⟨rfl, hb⟩; have hs := fun o => (bcell hb).1 w.heap.size o (by omega); replace HB := Lib.hid (bel_trans HB.out hb); clear hb))
  go_wp2_with fail
  go_quiet (fail)
  go_wp2
  go_returns
  exact ⟨rfl, bel_trans HB.out (bel_drewN _ _)⟩

theorem round2_false (q r b : Int) (w : World) (q0 : -9223372036854775808 ≤ q) (q1 : q < 9223372036854775807) (hr0 : 0 ≤ r) (hb1 : b ≤ 9223372036854775807) (hlt : r < b) (ht : Hid (decide (0 < r) = false)) :
    Calls Tryd.prog 101 #[dvn q r b, .int .i64 2] w fun e w' => e = .returned (.tuple #[.int .i64 (q), .int .i64 (r)]) ∧ Below w.heap.size w w' := by
  have hi := idx2
  have S0 : (w.alloc (.cells #[.int .i64 q, .int .i64 r, .int .i64 b] 122)).cell? ⟨w.heap.size, 0, none⟩ = some (.int .i64 q) := by simp [World.cell?_alloc_new]
  have S1 : (w.alloc (.cells #[.int .i64 q, .int .i64 r, .int .i64 b] 122)).cell? ⟨w.heap.size, 1, none⟩ = some (.int .i64 r) := by simp [World.cell?_alloc_new]
  have S2 : (w.alloc (.cells #[.int .i64 q, .int .i64 r, .int .i64 b] 122)).cell? ⟨w.heap.size, 2, none⟩ = some (.int .i64 b) := by simp [World.cell?_alloc_new]
  go_enter Tryd.func101, Tryd.ntmps101
  go_wp2_with fail
  have HB : Hid (Below w.heap.size w (w.alloc (.cells #[.int .i64 q, .int .i64 r, .int .i64 b] 122)).drew) := (bel_alloc (Below.refl _ _)).drew
  go_region_held3 (fun w' => w'.cell? ⟨w.heap.size, 0, none⟩ = some (.int .i64 q) ∧ w'.cell? ⟨w.heap.size, 1, none⟩ = some (.int .i64 r) ∧ w'.cell? ⟨w.heap.size, 2, none⟩ = some (.int .i64 b)) (go_keep)
    (first
      | (go_at_call 112; refine (choosers_any _).mono ?_; rintro e w2 ⟨b1, b2, rfl, k1, k2, hb⟩; have hs := fun o => (bcell hb).1 w.heap.size o (by simp); have z2 := hb.size; (try simp at z2); replace HB := Lib.hid (bel_trans HB.out hb); clear hb)
      | (go_at_call 122; refine (up_any q r b _).mono ?_; rw [ht.out]; rintro e w3 ⟨rfl, hb⟩; have hs := fun o => (bcell hb).1 w.heap.size o (by omega); replace HB := Lib.hid (bel_trans HB.out hb); clear hb))
  go_wp2_with fail
  go_quiet (fail)
  go_wp2
  go_returns
  exact ⟨rfl, bel_trans HB.out (bel_drewN _ _)⟩

theorem round3_true (q r b : Int) (w : World) (q0 : -9223372036854775808 ≤ q) (q1 : q < 9223372036854775807) (hr0 : 0 ≤ r) (hb1 : b ≤ 9223372036854775807) (hlt : r < b) (ht : Hid (nearB r b true = true)) :
    Calls Tryd.prog 101 #[dvn q r b, .int .i64 3] w fun e w' => e = .returned (.tuple #[.int .i64 (q + 1), .int .i64 (r - b)]) ∧ Below w.heap.size w w' := by
  have hi := idx3
  have S0 : (w.alloc (.cells #[.int .i64 q, .int .i64 r, .int .i64 b] 122)).cell? ⟨w.heap.size, 0, none⟩ = some (.int .i64 q) := by simp [World.cell?_alloc_new]
  have S1 : (w.alloc (.cells #[.int .i64 q, .int .i64 r, .int .i64 b] 122)).cell? ⟨w.heap.size, 1, none⟩ = some (.int .i64 r) := by simp [World.cell?_alloc_new]
  have S2 : (w.alloc (.cells #[.int .i64 q, .int .i64 r, .int .i64 b] 122)).cell? ⟨w.heap.size, 2, none⟩ = some (.int .i64 b) := by simp [World.cell?_alloc_new]
  go_enter Tryd.func101, Tryd.ntmps101
  go_wp2_with fail
  have HB : Hid (Below w.heap.size w (w.alloc (.cells #[.int .i64 q, .int .i64 r, .int .i64 b] 122)).drew) := (bel_alloc (Below.refl _ _)).drew
  go_region_held3 (fun w' => w'.cell? ⟨w.heap.size, 0, none⟩ = some (.int .i64 q) ∧ w'.cell? ⟨w.heap.size, 1, none⟩ = some (.int .i64 r) ∧ w'.cell? ⟨w.heap.size, 2, none⟩ = some (.int .i64 b)) (go_keep)
    (first
      | (go_at_call 112; refine (choosers_any _).mono ?_; rintro e w2 ⟨b1, b2, rfl, k1, k2, hb⟩; have hs := fun o => (bcell hb).1 w.heap.size o (by simp); have z2 := hb.size; (try simp at z2); replace HB := Lib.hid (bel_trans HB.out hb); clear hb)
      | (go_at_call 134; refine (nearUp_any q r b _ _ (by omega) (by omega) (by omega) (by omega) (by omega) (by assumption)).mono ?_; rw [ht.out]; rintro e w3 ⟨rfl, hb⟩; have hs := fun o => (bcell hb).1 w.heap.size o (by omega); replace HB := Lib.hid (bel_trans HB.out hb); clear hb))
  go_wp2_with fail
  go_quiet (fail)
  go_wp2
  go_returns
  exact ⟨rfl, bel_trans HB.out (bel_drewN _ _)⟩

theorem round3_false (q r b : Int) (w : World) (q0 : -9223372036854775808 ≤ q) (q1 : q < 9223372036854775807) (hr0 : 0 ≤ r) (hb1 : b ≤ 9223372036854775807) (hlt : r < b) (ht : Hid (nearB r b true = false)) :
    Calls Tryd.prog 101 #[dvn q r b, .int .i64 3] w fun e w' => e = .returned (.tuple #[.int .i64 (q), .int .i64 (r)]) ∧ Below w.heap.size w w' := by
  have hi := idx3
  have S0 : (w.alloc (.cells #[.int .i64 q, .int .i64 r, .int .i64 b] 122)).cell? ⟨w.heap.size, 0, none⟩ = some (.int .i64 q) := by simp [World.cell?_alloc_new]
  have S1 : (w.alloc (.cells #[.int .i64 q, .int .i64 r, .int .i64 b] 122)).cell? ⟨w.heap.size, 1, none⟩ = some (.int .i64 r) := by simp [World.cell?_alloc_new]
  have S2 : (w.alloc (.cells #[.int .i64 q, .int .i64 r, .int .i64 b] 122)).cell? ⟨w.heap.size, 2, none⟩ = some (.int .i64 b) := by simp [World.cell?_alloc_new]
  go_enter Tryd.func101, Tryd.ntmps101
  go_wp2_with fail
  have HB : Hid (Below w.heap.size w (w.alloc (.cells #[.int .i64 q, .int .i64 r, .int .i64 b] 122)).drew) := (bel_alloc (Below.refl _ _)).drew
  go_region_held3 (fun w' => w'.cell? ⟨w.heap.size, 0, none⟩ = some (.int .i64 q) ∧ w'.cell? ⟨w.heap.size, 1, none⟩ = some (.int .i64 r) ∧ w'.cell? ⟨w.heap.size, 2, none⟩ = some (.int .i64 b)) (go_keep)
    (first
      | (go_at_call 112; refine (choosers_any _).mono ?_; rintro e w2 ⟨b1, b2, rfl, k1, k2, hb⟩; have hs := fun o => (bcell hb).1 w.heap.size o (by simp); have z2 := hb.size; (try simp at z2); replace HB := Lib.hid (bel_trans HB.out hb); clear hb)
      | (go_at_call 134; refine (nearUp_any q r b _ _ (by omega) (by omega) (by omega) (by omega) (by omega) (by assumption)).mono ?_; rw [ht.out]; rintro e w3 ⟨rfl, hb⟩; have hs := fun o => (bcell hb).1 w.heap.size o (by omega); replace HB := Lib.hid (bel_trans HB.out hb); clear hb))
  go_wp2_with fail
  go_quiet (fail)
  go_wp2
  go_returns
  exact ⟨rfl, bel_trans HB.out (bel_drewN _ _)⟩

theorem round4_true (q r b : Int) (w : World) (q0 : -9223372036854775808 ≤ q) (q1 : q < 9223372036854775807) (hr0 : 0 ≤ r) (hb1 : b ≤ 9223372036854775807) (hlt : r < b) (ht : Hid (nearB r b (q.tmod 2 != 0) = true)) :
    Calls Tryd.prog 101 #[dvn q r b, .int .i64 4] w fun e w' => e = .returned (.tuple #[.int .i64 (q + 1), .int .i64 (r - b)]) ∧ Below w.heap.size w w' := by
  have hi := idx4
  have S0 : (w.alloc (.cells #[.int .i64 q, .int .i64 r, .int .i64 b] 122)).cell? ⟨w.heap.size, 0, none⟩ = some (.int .i64 q) := by simp [World.cell?_alloc_new]
  have S1 : (w.alloc (.cells #[.int .i64 q, .int .i64 r, .int .i64 b] 122)).cell? ⟨w.heap.size, 1, none⟩ = some (.int .i64 r) := by simp [World.cell?_alloc_new]
  have S2 : (w.alloc (.cells #[.int .i64 q, .int .i64 r, .int .i64 b] 122)).cell? ⟨w.heap.size, 2, none⟩ = some (.int .i64 b) := by simp [World.cell?_alloc_new]
  go_enter Tryd.func101, Tryd.ntmps101
  go_wp2_with fail
  have HB : Hid (Below w.heap.size w (w.alloc (.cells #[.int .i64 q, .int .i64 r, .int .i64 b] 122)).drew) := (bel_alloc (Below.refl _ _)).drew
  go_region_held3 (fun w' => w'.cell? ⟨w.heap.size, 0, none⟩ = some (.int .i64 q) ∧ w'.cell? ⟨w.heap.size, 1, none⟩ = some (.int .i64 r) ∧ w'.cell? ⟨w.heap.size, 2, none⟩ = some (.int .i64 b)) (go_keep)
    (first
      | (go_at_call 112; refine (choosers_any _).mono ?_; rintro e w2 ⟨b1, b2, rfl, k1, k2, hb⟩; have hs := fun o => (bcell hb).1 w.heap.size o (by simp); have z2 := hb.size; (try simp at z2); replace HB := Lib.hid (bel_trans HB.out hb); clear hb)
      | (go_at_call 134; refine (nearEven_any q r b _ _ (by omega) (by omega) (by omega) (by omega) (by omega) (by assumption)).mono ?_; rw [ht.out]; rintro e w3 ⟨rfl, hb⟩; have hs := fun o => (bcell hb).1 w.heap.size o (by omega); replace HB := Lib.hid (bel_trans HB.out hb); clear hb))
  go_wp2_with fail
  go_quiet (fail)
  go_wp2
  go_returns
  exact ⟨rfl, bel_trans HB.out (bel_drewN _ _)⟩

theorem round4_false (q r b : Int) (w : World) (q0 : -9223372036854775808 ≤ q) (q1 : q < 9223372036854775807) (hr0 : 0 ≤ r) (hb1 : b ≤ 9223372036854775807) (hlt : r < b) (ht : Hid (nearB r b (q.tmod 2 != 0) = false)) :
    Calls Tryd.prog 101 #[dvn q r b, .int .i64 4] w fun e w' => e = .returned (.tuple #[.int .i64 (q), .int .i64 (r)]) ∧ Below w.heap.size w w' := by
  have hi := idx4
  have S0 : (w.alloc (.cells #[.int .i64 q, .int .i64 r, .int .i64 b] 122)).cell? ⟨w.heap.size, 0, none⟩ = some (.int .i64 q) := by simp [World.cell?_alloc_new]
  have S1 : (w.alloc (.cells #[.int .i64 q, .int .i64 r, .int .i64 b] 122)).cell? ⟨w.heap.size, 1, none⟩ = some (.int .i64 r) := by simp [World.cell?_alloc_new]
  have S2 : (w.alloc (.cells #[.int .i64 q, .int .i64 r, .int .i64 b] 122)).cell? ⟨w.heap.size, 2, none⟩ = some (.int .i64 b) := by simp [World.cell?_alloc_new]
  go_enter Tryd.func101, Tryd.ntmps101
  go_wp2_with fail
  have HB : Hid (Below w.heap.size w (w.alloc (.cells #[.int .i64 q, .int .i64 r, .int .i64 b] 122)).drew) := (bel_alloc (Below.refl _ _)).drew
  go_region_held3 (fun w' => w'.cell? ⟨w.heap.size, 0, none⟩ = some (.int .i64 q) ∧ w'.cell? ⟨w.heap.size, 1, none⟩ = some (.int .i64 r) ∧ w'.cell? ⟨w.heap.size, 2, none⟩ = some (.int .i64 b)) (go_keep)
    (first
      | (go_at_call 112; refine (choosers_any _).mono ?_; rintro e w2 ⟨b1, b2, rfl, k1, k2, hb⟩; have hs := fun o => (bcell hb).1 w.heap.size o (by simp); have z2 := hb.size; (try simp at z2); replace HB := Lib.hid (bel_trans HB.out hb); clear hb)
      | (go_at_call 134; refine (nearEven_any q r b _ _ (by omega) (by omega) (by omega) (by omega) (by omega) (by assumption)).mono ?_; rw [ht.out]; rintro e w3 ⟨rfl, hb⟩; have hs := fun o => (bcell hb).1 w.heap.size o (by omega); replace HB := Lib.hid (bel_trans HB.out hb); clear hb))
  go_wp2_with fail
  go_quiet (fail)
  go_wp2
  go_returns
  exact ⟨rfl, bel_trans HB.out (bel_drewN _ _)⟩


end Go.Proofs.YtdpkochkpcjioabDoor

