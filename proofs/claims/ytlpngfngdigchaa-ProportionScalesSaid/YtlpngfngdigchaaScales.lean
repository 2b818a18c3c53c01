/-
  The statement ProportionScales of spile/spilelaw01 holds: for every input the call returns true, and each argument reads afterwards as it read before.
-/
import Derived.Test.YtlpngfngdigchaaAwake1
import Derived.Test.YtlpngfngdigchaaMix
import Derived.Test.YtlpngfngdigchaaOpen
import Derived.Below
import Derived.Carry
namespace Go.Proofs.Ytlpngfngdigchaa.proportionScales
open Go.ChangeShapes Go.WideShapes Go.ChangeAt Go.RowKit
open Go.ChangeMaps (open_string shut_string)
set_option linter.unusedVariables false

theorem scales_many (a x0 x1 x2 : Int) (v : Value) (ws : List Int) (w : World) (hv : Ins w v ws) (hn : 65 < ws.length) :
    Calls Try.prog 6 #[.int .i64 a, v, .agg #[.int .i64 x0, .int .i64 x1, .int .i64 x2]] w fun e w' => e = .returned (.bool true) ∧ Below w.heap.size w w' := by
  have HV := Lib.hid hv; clear hv
  have HN : Hid (decide (ws.length ≤ 65) = false) := by show _ = _; simp; omega
  go_enter Try.func6, Try.ntmps6
  go_wp2_with fail
  refine (awake_any _).mono ?_
  rintro e' w1 ⟨rfl, h1⟩
  have HB := Lib.hid (bel_alloc h1)
  have hs := fun o => (bcell h1).1 w.heap.size o (by simp)
  have z1 : w.heap.size < w1.heap.size := by have := h1.size; simp at this; omega
  clear h1
  have S0 : w1.cell? ⟨w.heap.size, 0, none⟩ = some (.int .i64 x0) := by rw [hs]; simp [World.cell?_alloc_new]
  have S1 : w1.cell? ⟨w.heap.size, 1, none⟩ = some (.int .i64 x1) := by rw [hs]; simp [World.cell?_alloc_new]
  have S2 : w1.cell? ⟨w.heap.size, 2, none⟩ = some (.int .i64 x2) := by rw [hs]; simp [World.cell?_alloc_new]
  clear hs
  go_wp2_with fail
  refine (few_any _ ws _ (HV.out.below HB.out)).mono ?_
  rw [HN.out]
  rintro e' w2 ⟨rfl, hw⟩
  subst hw
  go_wp2
  go_ret
  exact ⟨rfl, HB.out⟩

set_option maxHeartbeats 4000000 in
theorem scales_core (a x0 x1 x2 c T u t g e f : Int) (p q : List Int) (ws : List Int) (v : Value) (w : World) (hv : Ins w v ws) (hn : ws.length ≤ 65) (y0 : -9223372036854775808 ≤ x2) (y1 : x2 ≤ 9223372036854775807)
    (hT : (max 0 x2).tmod 1000 = T) (t0 : 0 ≤ T) (t1 : T ≤ 999) (hcT : 1 + T = c)
    (HD1 : Hid (∀ y W, Ins W y ws → Calls Try.prog 23 #[.int .i64 a, y] W fun e' w' => ∃ z, e' = .returned (.tuple #[z, .int .i64 e]) ∧ Ins w' z p ∧ Below W.heap.size W w'))
    (HD2 : Hid (∀ y W, Ins W y (ws.map (· * c)) → Calls Try.prog 23 #[.int .i64 a, y] W fun e' w' => ∃ z, e' = .returned (.tuple #[z, .int .i64 f]) ∧ Ins w' z q ∧ Below W.heap.size W w'))
    (hpq : Hid (e = 0 → f = 0 → p = q))
    (HR : Hid (∀ W, Calls Try.prog 24 #[.int .i64 x0, .int .i64 x1] W fun e' w' => e' = .returned (.tuple #[.int .i64 u, .int .i64 t, .int .i64 g]) ∧ Below W.heap.size W w'))
    (hg : Hid (((g != 0) = true ∧ u = 0 ∧ t = 0) ∨ (g = 0 ∧ 1 ≤ t ∧ t ≤ 128849018880000 ∧ 0 ≤ u ∧ u ≤ 128849018880000 ∧ (c = 1 ∨ u % c ≠ 0 ∨ t % c ≠ 0))))
    (HC : Hid (g = 0 → ∀ W, Calls Try.prog 13 #[.int .i64 u, .int .i64 t, .int .i64 x0, .int .i64 x1] W fun e' w' => e' = .returned (.tuple #[.int .i64 0, .int .i64 0]) ∧ Below W.heap.size W w')) :
    Calls Try.prog 6 #[.int .i64 a, v, .agg #[.int .i64 x0, .int .i64 x1, .int .i64 x2]] w fun e w' => e = .returned (.bool true) ∧ Below w.heap.size w w' := by
  have HV := Lib.hid hv; clear hv
  have HN : Hid (decide (ws.length ≤ 65) = true) := by show _ = _; simp; omega
  have HL := Lib.hid hn; clear hn
  have ew : IntKind.i64.wrap T = T := IntWalk.i64_in _ ⟨by omega, by omega⟩
  go_enter Try.func6, Try.ntmps6
  go_wp2_with fail
  refine (awake_any _).mono ?_
  rintro e' w1 ⟨rfl, h1⟩
  have HB := Lib.hid (bel_alloc h1)
  have hs := fun o => (bcell h1).1 w.heap.size o (by simp)
  have z1 : w.heap.size < w1.heap.size := by have := h1.size; simp at this; omega
  clear h1
  have S0 : w1.cell? ⟨w.heap.size, 0, none⟩ = some (.int .i64 x0) := by rw [hs]; simp [World.cell?_alloc_new]
  have S1 : w1.cell? ⟨w.heap.size, 1, none⟩ = some (.int .i64 x1) := by rw [hs]; simp [World.cell?_alloc_new]
  have S2 : w1.cell? ⟨w.heap.size, 2, none⟩ = some (.int .i64 x2) := by rw [hs]; simp [World.cell?_alloc_new]
  clear hs
  go_wp2_with fail
  refine (few_any _ ws _ (HV.out.below HB.out)).mono ?_
  rw [HN.out]
  rintro e' w2 ⟨rfl, hw⟩
  subst hw
  go_wp2_with fail
  refine (clone_any _ ws _ (HV.out.below HB.out) (by have := HL.out; omega)).mono ?_
  rintro e' w2 ⟨y, rfl, hy, h1⟩
  have HY := Lib.hid hy; clear hy
  replace HB := Lib.hid (bel_trans HB.out h1)
  replace S0 := ((bcell h1).1 w.heap.size 0 (by omega)).trans S0
  replace S1 := ((bcell h1).1 w.heap.size 1 (by omega)).trans S1
  replace S2 := ((bcell h1).1 w.heap.size 2 (by omega)).trans S2
  replace z1 : w.heap.size < w2.heap.size := by have := h1.size; omega
  clear h1
  go_wp2_with fail
  refine (HD1.out _ _ HY.out).mono ?_
  rintro e' w3 ⟨pv, rfl, hp, h1⟩
  have HP := Lib.hid hp; clear hp HY
  replace HB := Lib.hid (bel_trans HB.out h1)
  replace S0 := ((bcell h1).1 w.heap.size 0 (by omega)).trans S0
  replace S1 := ((bcell h1).1 w.heap.size 1 (by omega)).trans S1
  replace S2 := ((bcell h1).1 w.heap.size 2 (by omega)).trans S2
  replace z1 : w.heap.size < w3.heap.size := by have := h1.size; omega
  clear h1
  go_wp2_with fail
  refine (clone_own _ ws _ (HV.out.below HB.out) (by have := HL.out; omega)).mono ?_
  rintro e' w4 ⟨y2, rfl, hy, h1⟩
  have HX := Lib.hid h1; clear h1
  rcases hy with ⟨hyl, ⟨rfl, hz⟩ | ⟨gm, cap, cur, rfl, hg0, hrest⟩⟩
  · have hws : ws = [] := List.length_eq_zero_iff.1 hz
    subst hws
    clear hyl hz
    have hcs : (e = 0 ∧ f = 0) ∨ (e == 0) = false ∨ (e = 0 ∧ (f == 0) = false) := by
      by_cases he : e = 0
      · by_cases hf : f = 0
        · exact .inl ⟨he, hf⟩
        · exact .inr (.inr ⟨he, beq_eq_false_iff_ne.2 hf⟩)
      · exact .inr (.inl (beq_eq_false_iff_ne.2 he))
    have HI : Hid (∀ W, Ins W (.slice none 0 0) (([] : List Int).map (· * c))) := fun W => ins_nil W
    go_wp2_with fail
    go_loopw [41] (fun i wr => i = .int .i64 0 ∧ Hid (Below w3.heap.size w3 wr)) (fun i _ => 0)
    case atStart => exact ⟨rfl, HX⟩
    case round =>
      obtain ⟨rfl, P2⟩ := hrel
      have HI2 := Lib.hid (HI.out wr); clear HI
      have z2 := P2.out.size
      replace S0 := ((bcell P2.out).1 w.heap.size 0 (by omega)).trans S0
      replace S1 := ((bcell P2.out).1 w.heap.size 1 (by omega)).trans S1
      replace S2 := ((bcell P2.out).1 w.heap.size 2 (by omega)).trans S2
      replace HB := Lib.hid (bel_trans HB.out P2.out)
      replace HP := Lib.hid (HP.out.below P2.out)
      replace z1 : w.heap.size < wr.heap.size := by omega
      clear P2 z2
      go_wp2_with fail
      refine (HD2.out _ _ HI2.out).mono ?_
      rintro e' w5 ⟨qv, rfl, hq, h1⟩
      have HQ := Lib.hid hq; clear hq HI2
      replace HB := Lib.hid (bel_trans HB.out h1)
      replace HP := Lib.hid (HP.out.below h1)
      replace S0 := ((bcell h1).1 w.heap.size 0 (by omega)).trans S0
      replace S1 := ((bcell h1).1 w.heap.size 1 (by omega)).trans S1
      replace S2 := ((bcell h1).1 w.heap.size 2 (by omega)).trans S2
      replace z1 : w.heap.size < w5.heap.size := by have := h1.size; omega
      clear h1
      rcases hcs with ⟨he, hf⟩ | he | ⟨he, hf⟩
      · subst he
        subst hf
        have HPQ := Lib.hid (hpq.out rfl rfl)
        go_wp2_with fail
        refine (equal_yes _ _ p q _ HP.out HQ.out HPQ.out).mono ?_
        rintro e' w6 ⟨rfl, h1⟩
        replace HB := Lib.hid (bel_trans HB.out h1)
        replace S0 := ((bcell h1).1 w.heap.size 0 (by omega)).trans S0
        replace S1 := ((bcell h1).1 w.heap.size 1 (by omega)).trans S1
        replace S2 := ((bcell h1).1 w.heap.size 2 (by omega)).trans S2
        replace z1 : w.heap.size < w6.heap.size := by have := h1.size; omega
        clear h1
        go_wp2_with fail
        refine (HR.out _).mono ?_
        rintro e' w7 ⟨rfl, h1⟩
        replace HB := Lib.hid (bel_trans HB.out h1)
        replace S0 := ((bcell h1).1 w.heap.size 0 (by omega)).trans S0
        replace S1 := ((bcell h1).1 w.heap.size 1 (by omega)).trans S1
        replace S2 := ((bcell h1).1 w.heap.size 2 (by omega)).trans S2
        replace z1 : w.heap.size < w7.heap.size := by have := h1.size; omega
        clear h1
        rcases hg.out with ⟨g1, rfl, rfl⟩ | ⟨rfl, g1, g2, g3, g4, g5⟩
        · go_wp2
          go_ret
          exact ⟨rfl, HB.out⟩
        · have HC2 := Lib.hid (HC.out rfl)
          clear HC hg
          go_wp2_with fail
          refine (HC2.out _).mono ?_
          rintro e' w8 ⟨rfl, h1⟩
          replace HB := Lib.hid (bel_trans HB.out h1)
          clear h1 S0 S1 S2
          by_cases c1 : c = 1
          · clear g5
            go_wp2
            all_goals go_ret
            all_goals exact ⟨ret_bool (by first | rfl | (simp; try omega)), HB.out⟩
          · have c2 := bneq c1
            have c3 : 1 < c := by omega
            have g6 : u % c ≠ 0 ∨ t % c ≠ 0 := by
              rcases g5 with h | h | h
              · exact absurd h c1
              · exact .inl h
              · exact .inr h
            clear g5
            have m1 := Int.emod_lt_of_pos u (show 0 < c by omega)
            have m2 := Int.emod_lt_of_pos t (show 0 < c by omega)
            have m3 := Int.emod_nonneg u (show c ≠ 0 by omega)
            have m4 := Int.emod_nonneg t (show c ≠ 0 by omega)
            rcases g6 with g6 | g6
            · go_wp2
              all_goals go_ret
              all_goals exact ⟨ret_bool (by first | rfl | (simp; done) | (simp; omega)), HB.out⟩
            · go_wp2
              all_goals go_ret
              all_goals exact ⟨ret_bool (by first | rfl | (simp; done) | (simp; omega)), HB.out⟩
      · go_wp2_with fail
        refine (HR.out _).mono ?_
        rintro e' w7 ⟨rfl, h1⟩
        replace HB := Lib.hid (bel_trans HB.out h1)
        replace S0 := ((bcell h1).1 w.heap.size 0 (by omega)).trans S0
        replace S1 := ((bcell h1).1 w.heap.size 1 (by omega)).trans S1
        replace S2 := ((bcell h1).1 w.heap.size 2 (by omega)).trans S2
        replace z1 : w.heap.size < w7.heap.size := by have := h1.size; omega
        clear h1
        rcases hg.out with ⟨g1, rfl, rfl⟩ | ⟨rfl, g1, g2, g3, g4, g5⟩
        · go_wp2
          go_ret
          exact ⟨rfl, HB.out⟩
        · have HC2 := Lib.hid (HC.out rfl)
          clear HC hg
          go_wp2_with fail
          refine (HC2.out _).mono ?_
          rintro e' w8 ⟨rfl, h1⟩
          replace HB := Lib.hid (bel_trans HB.out h1)
          clear h1 S0 S1 S2
          by_cases c1 : c = 1
          · clear g5
            go_wp2
            all_goals go_ret
            all_goals exact ⟨ret_bool (by first | rfl | (simp; try omega)), HB.out⟩
          · have c2 := bneq c1
            have c3 : 1 < c := by omega
            have g6 : u % c ≠ 0 ∨ t % c ≠ 0 := by
              rcases g5 with h | h | h
              · exact absurd h c1
              · exact .inl h
              · exact .inr h
            clear g5
            have m1 := Int.emod_lt_of_pos u (show 0 < c by omega)
            have m2 := Int.emod_lt_of_pos t (show 0 < c by omega)
            have m3 := Int.emod_nonneg u (show c ≠ 0 by omega)
            have m4 := Int.emod_nonneg t (show c ≠ 0 by omega)
            rcases g6 with g6 | g6
            · go_wp2
              all_goals go_ret
              all_goals exact ⟨ret_bool (by first | rfl | (simp; done) | (simp; omega)), HB.out⟩
            · go_wp2
              all_goals go_ret
              all_goals exact ⟨ret_bool (by first | rfl | (simp; done) | (simp; omega)), HB.out⟩
      · subst he
        go_wp2_with fail
        refine (HR.out _).mono ?_
        rintro e' w7 ⟨rfl, h1⟩
        replace HB := Lib.hid (bel_trans HB.out h1)
        replace S0 := ((bcell h1).1 w.heap.size 0 (by omega)).trans S0
        replace S1 := ((bcell h1).1 w.heap.size 1 (by omega)).trans S1
        replace S2 := ((bcell h1).1 w.heap.size 2 (by omega)).trans S2
        replace z1 : w.heap.size < w7.heap.size := by have := h1.size; omega
        clear h1
        rcases hg.out with ⟨g1, rfl, rfl⟩ | ⟨rfl, g1, g2, g3, g4, g5⟩
        · go_wp2
          go_ret
          exact ⟨rfl, HB.out⟩
        · have HC2 := Lib.hid (HC.out rfl)
          clear HC hg
          go_wp2_with fail
          refine (HC2.out _).mono ?_
          rintro e' w8 ⟨rfl, h1⟩
          replace HB := Lib.hid (bel_trans HB.out h1)
          clear h1 S0 S1 S2
          by_cases c1 : c = 1
          · clear g5
            go_wp2
            all_goals go_ret
            all_goals exact ⟨ret_bool (by first | rfl | (simp; try omega)), HB.out⟩
          · have c2 := bneq c1
            have c3 : 1 < c := by omega
            have g6 : u % c ≠ 0 ∨ t % c ≠ 0 := by
              rcases g5 with h | h | h
              · exact absurd h c1
              · exact .inl h
              · exact .inr h
            clear g5
            have m1 := Int.emod_lt_of_pos u (show 0 < c by omega)
            have m2 := Int.emod_lt_of_pos t (show 0 < c by omega)
            have m3 := Int.emod_nonneg u (show c ≠ 0 by omega)
            have m4 := Int.emod_nonneg t (show c ≠ 0 by omega)
            rcases g6 with g6 | g6
            · go_wp2
              all_goals go_ret
              all_goals exact ⟨ret_bool (by first | rfl | (simp; done) | (simp; omega)), HB.out⟩
            · go_wp2
              all_goals go_ret
              all_goals exact ⟨ret_bool (by first | rfl | (simp; done) | (simp; omega)), HB.out⟩

  have HO : Hid (Own w4 w3.heap.size gm ws.length cap ws) := ⟨hyl, .inr ⟨gm, cap, cur, rfl, hg0, hrest⟩⟩
  clear hyl hrest cur
  have hcs : (e = 0 ∧ f = 0) ∨ (e == 0) = false ∨ (e = 0 ∧ (f == 0) = false) := by
    by_cases he : e = 0
    · by_cases hf : f = 0
      · exact .inl ⟨he, hf⟩
      · exact .inr (.inr ⟨he, beq_eq_false_iff_ne.2 hf⟩)
    · exact .inr (.inl (beq_eq_false_iff_ne.2 he))
  generalize hnn : ws.length = n at *
  have HNN := Lib.hid hnn; clear hnn
  have hn65 : n ≤ 65 := HL.out
  have z9 := hg0
  go_wp2_with fail
  go_loopw [41] (fun i wr => ∃ k : Nat, k ≤ n ∧ i = .int .i64 k ∧ Hid (Own wr w3.heap.size gm n cap (mix ws c k)) ∧ Hid (Below w3.heap.size w3 wr)) (fun i _ => n - (intOf i).toNat)
  case atStart => exact ⟨0, Nat.zero_le _, rfl, by rw [mix_zero]; exact HO, HX⟩
  case round =>
    obtain ⟨k, hk, rfl, P1, P2⟩ := hrel
    by_cases hlt : k < n
    · have hkz : k < ws.length := by rw [HNN.out]; exact hlt
      have c1 := P1.out.cell k hlt
      rw [mix_get ws c k hkz] at c1
      have f1 := World.ownsRow.frozenAt P1.out k
      have MS := Lib.hid (mix_set ws c k hkz)
      clear hkz
      generalize ws.getD k 0 = z at *
      by_cases h1 : z < 0
      · go_wp2
        go_ret
        exact ⟨rfl, bel_trans HB.out P2.out⟩
      by_cases h2 : 128849018880000 < z
      · go_wp2
        go_ret
        exact ⟨rfl, bel_trans HB.out P2.out⟩
      have mb0 : 0 ≤ z * c := Int.mul_nonneg (by omega) (by omega)
      have mb1 : z * c ≤ 128849018880000000 := by
        have := Int.mul_le_mul (show z ≤ 128849018880000 by omega) (show c ≤ 1000 by omega) (by omega) (by omega)
        omega
      have Q1 := P1.out.set k (z * c)
      rw [MS.out] at Q1
      have N1 := Lib.hid Q1; clear Q1
      have N2 := Lib.hid (P2.out.setCell (p := ⟨gm, k, none⟩) z9 (.int .i64 (z * c)))
      go_wp2
      go_roundw
      case rel => exact ⟨k + 1, by omega, by go_num, N1, N2⟩
      case measure => simp [intOf]; omega
    · obtain rfl : k = n := by omega
      have Q1 := P1.out
      rw [mix_all ws c k (by have := HNN.out; omega)] at Q1
      have HI2 := Lib.hid (Q1.ins (by omega)); clear Q1 P1
      have z2 := P2.out.size
      replace S0 := ((bcell P2.out).1 w.heap.size 0 (by omega)).trans S0
      replace S1 := ((bcell P2.out).1 w.heap.size 1 (by omega)).trans S1
      replace S2 := ((bcell P2.out).1 w.heap.size 2 (by omega)).trans S2
      replace HB := Lib.hid (bel_trans HB.out P2.out)
      replace HP := Lib.hid (HP.out.below P2.out)
      replace z1 : w.heap.size < wr.heap.size := by omega
      clear P2 z2
      go_wp2_with fail
      refine (HD2.out _ _ HI2.out).mono ?_
      rintro e' w5 ⟨qv, rfl, hq, h1⟩
      have HQ := Lib.hid hq; clear hq HI2
      replace HB := Lib.hid (bel_trans HB.out h1)
      replace HP := Lib.hid (HP.out.below h1)
      replace S0 := ((bcell h1).1 w.heap.size 0 (by omega)).trans S0
      replace S1 := ((bcell h1).1 w.heap.size 1 (by omega)).trans S1
      replace S2 := ((bcell h1).1 w.heap.size 2 (by omega)).trans S2
      replace z1 : w.heap.size < w5.heap.size := by have := h1.size; omega
      clear h1
      rcases hcs with ⟨he, hf⟩ | he | ⟨he, hf⟩
      · subst he
        subst hf
        have HPQ := Lib.hid (hpq.out rfl rfl)
        go_wp2_with fail
        refine (equal_yes _ _ p q _ HP.out HQ.out HPQ.out).mono ?_
        rintro e' w6 ⟨rfl, h1⟩
        replace HB := Lib.hid (bel_trans HB.out h1)
        replace S0 := ((bcell h1).1 w.heap.size 0 (by omega)).trans S0
        replace S1 := ((bcell h1).1 w.heap.size 1 (by omega)).trans S1
        replace S2 := ((bcell h1).1 w.heap.size 2 (by omega)).trans S2
        replace z1 : w.heap.size < w6.heap.size := by have := h1.size; omega
        clear h1
        go_wp2_with fail
        refine (HR.out _).mono ?_
        rintro e' w7 ⟨rfl, h1⟩
        replace HB := Lib.hid (bel_trans HB.out h1)
        replace S0 := ((bcell h1).1 w.heap.size 0 (by omega)).trans S0
        replace S1 := ((bcell h1).1 w.heap.size 1 (by omega)).trans S1
        replace S2 := ((bcell h1).1 w.heap.size 2 (by omega)).trans S2
        replace z1 : w.heap.size < w7.heap.size := by have := h1.size; omega
        clear h1
        rcases hg.out with ⟨g1, rfl, rfl⟩ | ⟨rfl, g1, g2, g3, g4, g5⟩
        · go_wp2
          go_ret
          exact ⟨rfl, HB.out⟩
        · have HC2 := Lib.hid (HC.out rfl)
          clear HC hg
          go_wp2_with fail
          refine (HC2.out _).mono ?_
          rintro e' w8 ⟨rfl, h1⟩
          replace HB := Lib.hid (bel_trans HB.out h1)
          clear h1 S0 S1 S2
          by_cases c1 : c = 1
          · clear g5
            go_wp2
            all_goals go_ret
            all_goals exact ⟨ret_bool (by first | rfl | (simp; try omega)), HB.out⟩
          · have c2 := bneq c1
            have c3 : 1 < c := by omega
            have g6 : u % c ≠ 0 ∨ t % c ≠ 0 := by
              rcases g5 with h | h | h
              · exact absurd h c1
              · exact .inl h
              · exact .inr h
            clear g5
            have m1 := Int.emod_lt_of_pos u (show 0 < c by omega)
            have m2 := Int.emod_lt_of_pos t (show 0 < c by omega)
            have m3 := Int.emod_nonneg u (show c ≠ 0 by omega)
            have m4 := Int.emod_nonneg t (show c ≠ 0 by omega)
            rcases g6 with g6 | g6
            · go_wp2
              all_goals go_ret
              all_goals exact ⟨ret_bool (by first | rfl | (simp; done) | (simp; omega)), HB.out⟩
            · go_wp2
              all_goals go_ret
              all_goals exact ⟨ret_bool (by first | rfl | (simp; done) | (simp; omega)), HB.out⟩
      · go_wp2_with fail
        refine (HR.out _).mono ?_
        rintro e' w7 ⟨rfl, h1⟩
        replace HB := Lib.hid (bel_trans HB.out h1)
        replace S0 := ((bcell h1).1 w.heap.size 0 (by omega)).trans S0
        replace S1 := ((bcell h1).1 w.heap.size 1 (by omega)).trans S1
        replace S2 := ((bcell h1).1 w.heap.size 2 (by omega)).trans S2
        replace z1 : w.heap.size < w7.heap.size := by have := h1.size; omega
        clear h1
        rcases hg.out with ⟨g1, rfl, rfl⟩ | ⟨rfl, g1, g2, g3, g4, g5⟩
        · go_wp2
          go_ret
          exact ⟨rfl, HB.out⟩
        · have HC2 := Lib.hid (HC.out rfl)
          clear HC hg
          go_wp2_with fail
          refine (HC2.out _).mono ?_
          rintro e' w8 ⟨rfl, h1⟩
          replace HB := Lib.hid (bel_trans HB.out h1)
          clear h1 S0 S1 S2
          by_cases c1 : c = 1
          · clear g5
            go_wp2
            all_goals go_ret
            all_goals exact ⟨ret_bool (by first | rfl | (simp; try omega)), HB.out⟩
          · have c2 := bneq c1
            have c3 : 1 < c := by omega
            have g6 : u % c ≠ 0 ∨ t % c ≠ 0 := by
              rcases g5 with h | h | h
              · exact absurd h c1
              · exact .inl h
              · exact .inr h
            clear g5
            have m1 := Int.emod_lt_of_pos u (show 0 < c by omega)
            have m2 := Int.emod_lt_of_pos t (show 0 < c by omega)
            have m3 := Int.emod_nonneg u (show c ≠ 0 by omega)
            have m4 := Int.emod_nonneg t (show c ≠ 0 by omega)
            rcases g6 with g6 | g6
            · go_wp2
              all_goals go_ret
              all_goals exact ⟨ret_bool (by first | rfl | (simp; done) | (simp; omega)), HB.out⟩
            · go_wp2
              all_goals go_ret
              all_goals exact ⟨ret_bool (by first | rfl | (simp; done) | (simp; omega)), HB.out⟩
      · subst he
        go_wp2_with fail
        refine (HR.out _).mono ?_
        rintro e' w7 ⟨rfl, h1⟩
        replace HB := Lib.hid (bel_trans HB.out h1)
        replace S0 := ((bcell h1).1 w.heap.size 0 (by omega)).trans S0
        replace S1 := ((bcell h1).1 w.heap.size 1 (by omega)).trans S1
        replace S2 := ((bcell h1).1 w.heap.size 2 (by omega)).trans S2
        replace z1 : w.heap.size < w7.heap.size := by have := h1.size; omega
        clear h1
        rcases hg.out with ⟨g1, rfl, rfl⟩ | ⟨rfl, g1, g2, g3, g4, g5⟩
        · go_wp2
          go_ret
          exact ⟨rfl, HB.out⟩
        · have HC2 := Lib.hid (HC.out rfl)
          clear HC hg
          go_wp2_with fail
          refine (HC2.out _).mono ?_
          rintro e' w8 ⟨rfl, h1⟩
          replace HB := Lib.hid (bel_trans HB.out h1)
          clear h1 S0 S1 S2
          by_cases c1 : c = 1
          · clear g5
            go_wp2
            all_goals go_ret
            all_goals exact ⟨ret_bool (by first | rfl | (simp; try omega)), HB.out⟩
          · have c2 := bneq c1
            have c3 : 1 < c := by omega
            have g6 : u % c ≠ 0 ∨ t % c ≠ 0 := by
              rcases g5 with h | h | h
              · exact absurd h c1
              · exact .inl h
              · exact .inr h
            clear g5
            have m1 := Int.emod_lt_of_pos u (show 0 < c by omega)
            have m2 := Int.emod_lt_of_pos t (show 0 < c by omega)
            have m3 := Int.emod_nonneg u (show c ≠ 0 by omega)
            have m4 := Int.emod_nonneg t (show c ≠ 0 by omega)
            rcases g6 with g6 | g6
            · go_wp2
              all_goals go_ret
              all_goals exact ⟨ret_bool (by first | rfl | (simp; done) | (simp; omega)), HB.out⟩
            · go_wp2
              all_goals go_ret
              all_goals exact ⟨ret_bool (by first | rfl | (simp; done) | (simp; omega)), HB.out⟩


theorem walk (a : Int) (v : Value) (ws : List Int) (x0 x1 x2 : Int) (w : World) (wa : -9223372036854775808 ≤ a ∧ a ≤ 9223372036854775807) (hv : Ins w v ws) (wl : ∀ z ∈ ws, (Lit.int .i64 z).wf = true) (b0 : -9223372036854775808 ≤ x0 ∧ x0 ≤ 9223372036854775807) (b1 : -9223372036854775808 ≤ x1 ∧ x1 ≤ 9223372036854775807) (b2 : -9223372036854775808 ≤ x2 ∧ x2 ≤ 9223372036854775807) :
    Calls Try.prog 6 #[.int .i64 a, v, .agg #[.int .i64 x0, .int .i64 x1, .int .i64 x2]] w fun e w' => e = .returned (.bool true) ∧ Below w.heap.size w w' := by
  by_cases hn : 65 < ws.length
  · exact scales_many a x0 x1 x2 v ws w hv hn
  have m0 : 0 ≤ max 0 x2 := by omega
  have t0 := Int.tmod_nonneg 1000 m0
  have t1 := Int.tmod_lt_of_pos (max 0 x2) (show (0 : Int) < 1000 by omega)
  generalize hT : (max 0 x2).tmod 1000 = T at *
  refine scales_core a x0 x1 x2 (1 + T) T (redA x0 x1) (redB x0 x1) (redE x0 x1) (divE a ws) (divE a (ws.map (· * (1 + T)))) (divP a ws) (divP a (ws.map (· * (1 + T)))) ws v w hv (by omega) b2.1 b2.2 hT t0 (by omega) rfl
    (fun y W hy => divide_any a y ws W hy) (fun y W hy => divide_any a y _ W hy) (fun h1 h2 => (divP_scale a ws (1 + T) (by omega) h1 h2).symm) (fun W => reduce_any x0 x1 W) ?_ ?_
  · by_cases h : redE x0 x1 = 0
    · obtain ⟨r1, r2, r3, r4, r5, r6, r7⟩ := red_facts x0 x1 (1 + T) h (by omega)
      rw [Int.tmod_eq_emod_of_nonneg r3, Int.tmod_eq_emod_of_nonneg (by omega)] at r7
      exact .inr ⟨h, r1, r2, r3, r4, r7⟩
    · left
      refine ⟨bneq h, ?_, ?_⟩
      · unfold redA; rw [if_neg h]
      · unfold redB; rw [if_neg h]
  · intro h W
    obtain ⟨r1, r2, r3, r4, r5, r6, r7⟩ := red_facts x0 x1 (1 + T) h (by omega)
    have := compare_any (redA x0 x1) (redB x0 x1) x0 x1 W
    rwa [r5, r6] at this

set_option maxRecDepth 100000 in
theorem lifted (os : Os) (started : os.Started) (H : Type) (enc : TypeId × Value → H) :
    ReturnsInHanded {} Try.checked os 6 .any (Rows.proportionScalesSpec.pre6 enc Try.prog Try.f6 Rows.proportionScalesRow.domain false) (Rows.proportionScalesSpec.post enc Try.prog Try.f6 false true false false) := by
  refine returnsInHanded_of_change (C := Try.checked) own started (by kernel_rfl) Try.func6
    (ChangeSpec.witness6 (enc := enc) (C := Try.checked) false ⟨#[], #[.int .i64 0, .slice none 0 0, .agg #[.int .i64 0, .int .i64 0, .int .i64 0]], []⟩ 8 (by kernel_rfl) (by kernel_rfl) (by kernel_rfl) (by kernel_rfl)) ?_
  intro W base args ds gs before hval0 hW hcnd _
  have hval : ∀ (j : Nat) t v, Try.f6.params[j]? = some t → args[j]? = some v → Value.okWide Try.prog W .any base t v := hval0
  clear hval0
  have hW' := hW
  obtain ⟨p, q, hA0, hV, rfl, hfz, hnd⟩ := hW
  have hA : DataW.TrodAll enc Try.prog W 0 (fun _ => true) true Try.f6.params.toList args.toList ds p := hA0
  rw [Try.params6] at hA hval
  obtain ⟨v0, vs0, d0, ds0, p0, q0, hargs, rfl, rfl, h0, r0⟩ := trodAll_cons hA
  obtain ⟨v1, vs1, d1, ds1, p1, q1, rfl, rfl, rfl, h1, r1⟩ := trodAll_cons r0
  obtain ⟨v2, vs2, d2, ds2, p2, q2, rfl, rfl, rfl, h2, r2⟩ := trodAll_cons r1
  obtain ⟨rfl, rfl, rfl⟩ := trodAll_nil r2
  obtain rfl : args = #[v0, v1, v2] := by cases args; simp_all
  obtain ⟨rfl, rfl⟩ := trodVars_none hV
  have k0 := h0
  have lt0 : ∀ x ∈ p0, x.block < W.heap.size := by obtain ⟨m, hm⟩ := k0; exact DataW.trod_lt m _ _ _ hm
  have k1 := h1
  have lt1 : ∀ x ∈ p1, x.block < W.heap.size := by obtain ⟨m, hm⟩ := k1; exact DataW.trod_lt m _ _ _ hm
  have k2 := h2
  have lt2 : ∀ x ∈ p2, x.block < W.heap.size := by obtain ⟨m, hm⟩ := k2; exact DataW.trod_lt m _ _ _ hm
  obtain ⟨a0, rfl, rfl, rfl, w0⟩ := open_int Try.underlying3 (hval 0 3 v0 rfl rfl) h0
  obtain ⟨z1, w1, b1⟩ := open_intSlice Try.underlying36 Try.underlying3 (by kernel_rfl) (hval 1 36 v1 rfl rfl) h1
  obtain ⟨z2, l2, rfl, b2⟩ := open_intArr Try.underlying45 Try.underlying3 (by kernel_rfl) (by kernel_rfl) (hval 2 45 v2 rfl rfl) h2
  obtain ⟨x2_0, x2_1, x2_2, rfl⟩ := list_three l2
  clear hA0
  refine (walk a0 v1 z1 x2_0 x2_1 x2_2 W (wf_bd w0) w1 b1 (wf_bd (b2 x2_0 (by simp))) (wf_bd (b2 x2_1 (by simp))) (wf_bd (b2 x2_2 (by simp)))).mono fun e W' ⟨he, bel⟩ => ?_
  subst he
  exact ⟨_, rfl, _, _, _, [], _, [], hW', trodAll_mk1 (shut_bool Try.underlying4 _), (trodAll_cons_mk (Below.trod laidOut (by kernel_rfl) (of_decide_eq_true (by kernel_rfl)) k0 bel lt0) (trodAll_cons_mk (Below.trod laidOut (by kernel_rfl) (of_decide_eq_true (by kernel_rfl)) k1 bel lt1) (trodAll_cons_mk (Below.trod laidOut (by kernel_rfl) (of_decide_eq_true (by kernel_rfl)) k2 bel lt2) trodAll_mk0))), rfl, bel.frame _, fun h => by cases h⟩

theorem over : Rows.proportionScalesRow.holds Try.pinned (OpenSpec.ofChange Rows.proportionScalesSpec) :=
  OpenClaim.holds_of_wide 6 Try.f6 rfl rfl rfl rfl rfl rfl rfl ⟨rfl, rfl, rfl, rfl, rfl⟩ rfl rfl rfl rfl rfl (by kernel_rfl) Try.func6 (by kernel_rfl)
    (of_decide_eq_true (by kernel_rfl)) (by unfold Func.isWrapper; first | (rw [if_pos (by decide +kernel)]; kernel_rfl) | (rw [if_neg (by decide +kernel)]; exact ⟨rfl, rfl⟩))
    (fun os started H enc _ => lifted os started H enc)

theorem proved : Rows.ProportionScalesSaid := over
#print axioms proved
end Go.Proofs.Ytlpngfngdigchaa.proportionScales
