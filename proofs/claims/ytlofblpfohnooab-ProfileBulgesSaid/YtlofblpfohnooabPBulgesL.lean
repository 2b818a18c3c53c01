/-
  The statement ProfileBulges of spile/spilelaw08 holds: for every input the call returns true, and each argument reads afterwards as it read before.
-/
import Derived.Test.YtlofblpfohnooabPF
import Derived.Test.YtlofblpfohnooabPO
import Derived.Below
import Derived.Carry
namespace Go.Proofs.Ytlofblpfohnooab.profileBulges
open Go.ChangeShapes Go.WideShapes Go.ChangeAt Go.RowKit
open Go.ChangeMaps (open_string shut_string)
set_option linter.unusedVariables false

set_option maxHeartbeats 4000000 in
theorem long (x y : Int) (a : Option Addr) (n cap : Nat) (w : World)
    (FW : Hid (∀ W, Below w.heap.size w W → Calls Try.prog 10 #[.slice a n cap] W fun e w' => e = .returned (.bool false) ∧ w' = W)) :
    Calls Try.prog 5 #[.slice a n cap, .int .i64 x, .int .i64 y] w fun e w' => e = .returned (.bool true) ∧ Below w.heap.size w w' := by
  have HA := Lib.hid (fun W => awake_any W)
  have HB := Lib.hid (Below.refl w.heap.size w)
  go_enter Try.func5, Try.ntmps5
  go_wp2_with fail
  refine (HA.out _).mono ?_
  rintro e w2 ⟨rfl, h1⟩
  replace HB := Lib.hid (bel_trans HB.out h1); clear h1
  go_wp2_with fail
  refine (FW.out _ HB.out).mono ?_
  rintro e w90 ⟨rfl, hw⟩
  subst hw
  go_wp2
  go_returns
  exact ⟨rfl, HB.out⟩
set_option maxHeartbeats 8000000 in
theorem bad (x y E : Int) (a : Option Addr) (n cap : Nat) (l : List (Int × Int)) (w : World) (hz : Hid (l.length ≤ 1000)) (NV : Hid (Pts w (.slice a n cap) l)) (e1 : (E == 0) = false) (e2 : (E != 0) = true)
    (FW : Hid (∀ W, Below w.heap.size w W → Calls Try.prog 10 #[.slice a n cap] W fun e w' => e = .returned (.bool true) ∧ w' = W))
    (HU : Hid (∀ v W, Pts W v l → Calls Try.prog 14 #[v] W fun e w' => e = .returned (.tuple #[.int .i64 0, .int .i64 E]) ∧ Below W.heap.size W w')) :
    Calls Try.prog 5 #[.slice a n cap, .int .i64 x, .int .i64 y] w fun e w' => e = .returned (.bool true) ∧ Below w.heap.size w w' := by
  have HA := Lib.hid (fun W => awake_any W)
  have HB := Lib.hid (Below.refl w.heap.size w)
  go_enter Try.func5, Try.ntmps5
  go_wp2_with fail
  refine (HA.out _).mono ?_
  rintro e w5 ⟨rfl, h1⟩
  replace NV := Lib.hid (NV.out.below h1)
  replace HB := Lib.hid (bel_trans HB.out h1); clear h1
  go_wp2_with fail
  refine (FW.out _ HB.out).mono ?_
  rintro e w90 ⟨rfl, hw⟩
  subst hw
  clear FW
  go_wp2_with fail
  refine (clone_p _ l _ NV.out hz.out).mono ?_
  rintro e w6 ⟨V1, rfl, hx, h1⟩
  replace NV := Lib.hid (NV.out.below h1)
  replace HB := Lib.hid (bel_trans HB.out h1); clear h1
  have N1 := Lib.hid hx; clear hx
  go_wp2_with fail
  refine (HU.out _ _ N1.out).mono ?_
  rintro e w7 ⟨rfl, h1⟩
  replace NV := Lib.hid (NV.out.below h1)
  replace N1 := Lib.hid (N1.out.below h1)
  replace HB := Lib.hid (bel_trans HB.out h1); clear h1
  go_wp2
  go_returns
  exact ⟨rfl, HB.out⟩
set_option maxHeartbeats 8000000 in
theorem mid (x y u v i L1 H1 E1 L2 H2 E2 : Int) (a : Option Addr) (n cap : Nat) (l : List (Int × Int)) (w : World) (hz : Hid (l.length ≤ 1000)) (NV : Hid (Pts w (.slice a n cap) l)) (m1 : min x y = u) (m2 : max x y = v)
    (h : ((E1 == 0) = false ∧ (E1 != 0) = true ∧ L1 = 0 ∧ H1 = 0 ∧ (((E2 == 0) = false ∧ (E2 != 0) = true ∧ L2 = 0 ∧ H2 = 0) ∨ E2 = 0)) ∨ (E1 = 0 ∧ (E2 == 0) = false ∧ (E2 != 0) = true ∧ L2 = 0 ∧ H2 = 0))
    (FW : Hid (∀ W, Below w.heap.size w W → Calls Try.prog 10 #[.slice a n cap] W fun e w' => e = .returned (.bool true) ∧ w' = W))
    (HU : Hid (∀ v W, Pts W v l → Calls Try.prog 14 #[v] W fun e w' => e = .returned (.tuple #[.int .i64 i, .int .i64 0]) ∧ Below W.heap.size W w'))
    (A1 : Hid (∀ v W, Pts W v l → Calls Try.prog 18 #[v, .int .i64 u] W fun e w' => e = .returned (.tuple #[.agg #[.int .i64 L1, .int .i64 H1], .int .i64 E1]) ∧ Below W.heap.size W w'))
    (A2 : Hid (∀ z W, Pts W z l → Calls Try.prog 18 #[z, .int .i64 v] W fun e w' => e = .returned (.tuple #[.agg #[.int .i64 L2, .int .i64 H2], .int .i64 E2]) ∧ Below W.heap.size W w')) :
    Calls Try.prog 5 #[.slice a n cap, .int .i64 x, .int .i64 y] w fun e w' => e = .returned (.bool true) ∧ Below w.heap.size w w' := by
  have HA := Lib.hid (fun W => awake_any W)
  have Q1 : ∀ W, (binOp .eql 33 (.agg #[.int .i64 0, .int .i64 0]) (.agg #[.int .i64 0, .int .i64 0])).run Try.prog W = .ok (.bool true) W := fun W => by rw [run_eql_bounds]; rfl
  have HB := Lib.hid (Below.refl w.heap.size w)
  go_enter Try.func5, Try.ntmps5
  go_wp2_with fail
  refine (HA.out _).mono ?_
  rintro e w10 ⟨rfl, h1⟩
  replace NV := Lib.hid (NV.out.below h1)
  replace HB := Lib.hid (bel_trans HB.out h1); clear h1
  go_wp2_with fail
  refine (FW.out _ HB.out).mono ?_
  rintro e w90 ⟨rfl, hw⟩
  subst hw
  clear FW
  go_wp2_with fail
  refine (clone_p _ l _ NV.out hz.out).mono ?_
  rintro e w11 ⟨V1, rfl, hx, h1⟩
  replace NV := Lib.hid (NV.out.below h1)
  replace HB := Lib.hid (bel_trans HB.out h1); clear h1
  have N1 := Lib.hid hx; clear hx
  go_wp2_with fail
  refine (HU.out _ _ N1.out).mono ?_
  rintro e w12 ⟨rfl, h1⟩
  replace NV := Lib.hid (NV.out.below h1)
  replace N1 := Lib.hid (N1.out.below h1)
  replace HB := Lib.hid (bel_trans HB.out h1); clear h1
  go_wp2_with fail
  refine (clone_p _ l _ NV.out hz.out).mono ?_
  rintro e w13 ⟨V2, rfl, hx, h1⟩
  replace NV := Lib.hid (NV.out.below h1)
  replace N1 := Lib.hid (N1.out.below h1)
  replace HB := Lib.hid (bel_trans HB.out h1); clear h1
  have N2 := Lib.hid hx; clear hx
  go_wp2_with fail
  refine (A1.out _ _ N2.out).mono ?_
  rintro e w14 ⟨rfl, h1⟩
  replace NV := Lib.hid ((NV.out.below h1).alloc (.cells #[.int .i64 L1, .int .i64 H1] 33))
  replace N1 := Lib.hid ((N1.out.below h1).alloc (.cells #[.int .i64 L1, .int .i64 H1] 33))
  replace N2 := Lib.hid ((N2.out.below h1).alloc (.cells #[.int .i64 L1, .int .i64 H1] 33))
  replace HB := Lib.hid ((bel_trans HB.out h1).alloc (bel_trans HB.out h1).size (.cells #[.int .i64 L1, .int .i64 H1] 33)); clear h1
  have T1 := Lib.hid (Two.new w14 (.int .i64 L1) (.int .i64 H1) 33)
  go_wp2_with fail
  refine (clone_p _ l _ NV.out hz.out).mono ?_
  rintro e w15 ⟨V3, rfl, hx, h1⟩
  replace NV := Lib.hid (NV.out.below h1)
  replace N1 := Lib.hid (N1.out.below h1)
  replace N2 := Lib.hid (N2.out.below h1)
  replace T1 := Lib.hid (T1.out.below h1)
  replace HB := Lib.hid (bel_trans HB.out h1); clear h1
  have N3 := Lib.hid hx; clear hx
  go_wp2_with fail
  refine (A2.out _ _ N3.out).mono ?_
  rintro e w16 ⟨rfl, h1⟩
  replace NV := Lib.hid ((NV.out.below h1).alloc (.cells #[.int .i64 L2, .int .i64 H2] 33))
  replace N1 := Lib.hid ((N1.out.below h1).alloc (.cells #[.int .i64 L2, .int .i64 H2] 33))
  replace N2 := Lib.hid ((N2.out.below h1).alloc (.cells #[.int .i64 L2, .int .i64 H2] 33))
  replace T1 := Lib.hid ((T1.out.below h1).alloc (.cells #[.int .i64 L2, .int .i64 H2] 33))
  replace N3 := Lib.hid ((N3.out.below h1).alloc (.cells #[.int .i64 L2, .int .i64 H2] 33))
  replace HB := Lib.hid ((bel_trans HB.out h1).alloc (bel_trans HB.out h1).size (.cells #[.int .i64 L2, .int .i64 H2] 33)); clear h1
  have T2 := Lib.hid (Two.new w16 (.int .i64 L2) (.int .i64 H2) 33)
  obtain ⟨T10, T11, T12, T13, T14⟩ := T1.out
  obtain ⟨T20, T21, T22, T23, T24⟩ := T2.out
  rcases h with ⟨e1, e2, rfl, rfl, ⟨e3, e4, rfl, rfl⟩ | rfl⟩ | ⟨rfl, e3, e4, rfl, rfl⟩
  all_goals
    go_wp2
    go_returns
    exact ⟨rfl, HB.out⟩
set_option maxHeartbeats 16000000 in
set_option maxRecDepth 100000 in
theorem good (x y u v L1 H1 L2 H2 rg r0 rn xg : Int) (a : Option Addr) (m cap g : Nat) (l : List (Int × Int)) (w : World) (hz : Hid (l.length ≤ 1000)) (NV : Hid (Pts w (.slice a (m + 1) cap) l)) (m1 : min x y = u) (m2 : max x y = v) (hm : m ≤ 1000) (hg : g < m + 1)
    (hr1 : Hid (gR l g = rg)) (hr2 : Hid (gR l 0 = r0)) (hr3 : Hid (gR l m = rn)) (hr4 : Hid (gX l g = xg))
    (b0 : -100000 ≤ L1 ∧ L1 ≤ 100000 ∧ -100000 ≤ H1 ∧ H1 ≤ 100000) (f1 : L1 ≤ H1) (f2 : H1 - L1 ≤ 1) (f3 : H1 ≤ rg) (f4 : min r0 rn ≤ L1)
    (h : (v ≤ xg ∧ L1 ≤ L2 ∧ H1 ≤ H2) ∨ (¬ v ≤ xg ∧ u < xg) ∨ (¬ v ≤ xg ∧ ¬ u < xg ∧ L2 ≤ L1 ∧ H2 ≤ H1))
    (FW : Hid (∀ W, Below w.heap.size w W → Calls Try.prog 10 #[.slice a (m + 1) cap] W fun e w' => e = .returned (.bool true) ∧ w' = W))
    (HU : Hid (∀ v W, Pts W v l → Calls Try.prog 14 #[v] W fun e w' => e = .returned (.tuple #[.int .i64 g, .int .i64 0]) ∧ Below W.heap.size W w'))
    (A1 : Hid (∀ v W, Pts W v l → Calls Try.prog 18 #[v, .int .i64 u] W fun e w' => e = .returned (.tuple #[.agg #[.int .i64 L1, .int .i64 H1], .int .i64 0]) ∧ Below W.heap.size W w'))
    (A2 : Hid (∀ z W, Pts W z l → Calls Try.prog 18 #[z, .int .i64 v] W fun e w' => e = .returned (.tuple #[.agg #[.int .i64 L2, .int .i64 H2], .int .i64 0]) ∧ Below W.heap.size W w')) :
    Calls Try.prog 5 #[.slice a (m + 1) cap, .int .i64 x, .int .i64 y] w fun e w' => e = .returned (.bool true) ∧ Below w.heap.size w w' := by
  have HA := Lib.hid (fun W => awake_any W)
  have HB := Lib.hid (Below.refl w.heap.size w)
  go_enter Try.func5, Try.ntmps5
  go_wp2_with fail
  refine (HA.out _).mono ?_
  rintro e w20 ⟨rfl, h1⟩
  replace NV := Lib.hid (NV.out.below h1)
  replace HB := Lib.hid (bel_trans HB.out h1); clear h1
  go_wp2_with fail
  refine (FW.out _ HB.out).mono ?_
  rintro e w90 ⟨rfl, hw⟩
  subst hw
  clear FW
  go_wp2_with fail
  refine (clone_p _ l _ NV.out hz.out).mono ?_
  rintro e w21 ⟨V1, rfl, hx, h1⟩
  replace NV := Lib.hid (NV.out.below h1)
  replace HB := Lib.hid (bel_trans HB.out h1); clear h1
  have N1 := Lib.hid hx; clear hx
  go_wp2_with fail
  refine (HU.out _ _ N1.out).mono ?_
  rintro e w22 ⟨rfl, h1⟩
  replace NV := Lib.hid (NV.out.below h1)
  replace N1 := Lib.hid (N1.out.below h1)
  replace HB := Lib.hid (bel_trans HB.out h1); clear h1
  go_wp2_with fail
  refine (clone_p _ l _ NV.out hz.out).mono ?_
  rintro e w23 ⟨V2, rfl, hx, h1⟩
  replace NV := Lib.hid (NV.out.below h1)
  replace N1 := Lib.hid (N1.out.below h1)
  replace HB := Lib.hid (bel_trans HB.out h1); clear h1
  have N2 := Lib.hid hx; clear hx
  go_wp2_with fail
  refine (A1.out _ _ N2.out).mono ?_
  rintro e w24 ⟨rfl, h1⟩
  replace NV := Lib.hid ((NV.out.below h1).alloc (.cells #[.int .i64 L1, .int .i64 H1] 33))
  replace N1 := Lib.hid ((N1.out.below h1).alloc (.cells #[.int .i64 L1, .int .i64 H1] 33))
  replace N2 := Lib.hid ((N2.out.below h1).alloc (.cells #[.int .i64 L1, .int .i64 H1] 33))
  replace HB := Lib.hid ((bel_trans HB.out h1).alloc (bel_trans HB.out h1).size (.cells #[.int .i64 L1, .int .i64 H1] 33)); clear h1
  have T1 := Lib.hid (Two.new w24 (.int .i64 L1) (.int .i64 H1) 33)
  go_wp2_with fail
  refine (clone_p _ l _ NV.out hz.out).mono ?_
  rintro e w25 ⟨V3, rfl, hx, h1⟩
  replace NV := Lib.hid (NV.out.below h1)
  replace N1 := Lib.hid (N1.out.below h1)
  replace N2 := Lib.hid (N2.out.below h1)
  replace T1 := Lib.hid (T1.out.below h1)
  replace HB := Lib.hid (bel_trans HB.out h1); clear h1
  have N3 := Lib.hid hx; clear hx
  go_wp2_with fail
  refine (A2.out _ _ N3.out).mono ?_
  rintro e w26 ⟨rfl, h1⟩
  replace NV := Lib.hid ((NV.out.below h1).alloc (.cells #[.int .i64 L2, .int .i64 H2] 33))
  replace N1 := Lib.hid ((N1.out.below h1).alloc (.cells #[.int .i64 L2, .int .i64 H2] 33))
  replace N2 := Lib.hid ((N2.out.below h1).alloc (.cells #[.int .i64 L2, .int .i64 H2] 33))
  replace T1 := Lib.hid ((T1.out.below h1).alloc (.cells #[.int .i64 L2, .int .i64 H2] 33))
  replace N3 := Lib.hid ((N3.out.below h1).alloc (.cells #[.int .i64 L2, .int .i64 H2] 33))
  replace HB := Lib.hid ((bel_trans HB.out h1).alloc (bel_trans HB.out h1).size (.cells #[.int .i64 L2, .int .i64 H2] 33)); clear h1
  have T2 := Lib.hid (Two.new w26 (.int .i64 L2) (.int .i64 H2) 33)
  obtain ⟨bz, oz, rfl, hbz, hcz⟩ := NV.out.at (by omega)
  have c0 := (hcz g hg).2
  have c1 := (hcz 0 (by omega)).2
  have c2 := (hcz m (by omega)).2
  have c3 := (hcz g hg).1
  rw [hr1.out] at c0
  rw [hr2.out] at c1
  rw [hr3.out] at c2
  rw [hr4.out] at c3
  rw [Nat.zero_mul, Nat.add_zero] at c1
  clear hcz N1 N2 N3 A1 A2 HU
  obtain ⟨T10, T11, T12, T13, T14⟩ := T1.out
  obtain ⟨T20, T21, T22, T23, T24⟩ := T2.out
  have wk : IntKind.i64.wrap ((m : Int) + 1 - 1) = (m : Int) := by simp only [IntKind.wrap_i64]; omega
  have wk2 : IntKind.i64.wrap (m : Int) = (m : Int) := by simp only [IntKind.wrap_i64]; omega
  have ws : IntKind.i64.wrap (H1 - L1) = H1 - L1 := wrap_in _ ⟨by omega, by omega⟩
  have d1 : decide ((g : Int) < 0) = false := decide_eq_false (by omega)
  have d2 : decide ((m : Int) + 1 ≤ (g : Int)) = false := decide_eq_false (by omega)
  have d3 : decide (H1 < L1) = false := decide_eq_false (by omega)
  have d4 : decide (1 < H1 - L1) = false := decide_eq_false (by omega)
  have d5 : decide (rg < H1) = false := decide_eq_false (by omega)
  have d6 : decide (L1 < min r0 rn) = false := decide_eq_false (by omega)
  have l1 : (g : Int) < (m : Int) + 1 := by omega
  have l2 : g < m + 1 := hg
  have l3 : (m : Int) < (m : Int) + 1 := by omega
  have l4 : (0 : Int) < (m : Int) + 1 := by omega
  go_wp2_with fail
  go_quiet (fail)
  rcases h with ⟨g1, g2, g3⟩ | ⟨g1, g2⟩ | ⟨g1, g2, g3, g4⟩
  all_goals
    go_wp2
    go_returns
    exact ⟨rfl, bel_trans HB.out (bel_drewN _ _)⟩
theorem walk (z : Value) (l : List (Int × Int)) (x y : Int) (w : World) (hv : Pts w z l) (hx : -9223372036854775808 ≤ x ∧ x ≤ 9223372036854775807) (hy : -9223372036854775808 ≤ y ∧ y ≤ 9223372036854775807) :
    Calls Try.prog 5 #[z, .int .i64 x, .int .i64 y] w fun e w' => e = .returned (.bool true) ∧ Below w.heap.size w w' := by
  have hv2 := hv
  obtain ⟨a, cap, rfl, _, _⟩ := hv.shape
  by_cases h : l.length ≤ 33
  · have FW : ∀ W, Below w.heap.size w W → Calls Try.prog 10 #[.slice a l.length cap] W fun e w' => e = .returned (.bool true) ∧ w' = W := fun W hW => by
      have := few_any _ l W (hv2.below hW)
      rwa [decide_eq_true h] at this
    by_cases e : ckE l = 0
    · have hR := (ckE_iff l).1 e
      have n0 := hR.n0
      have HU : ∀ v W, Pts W v l → Calls Try.prog 14 #[v] W fun e w' => e = .returned (.tuple #[.int .i64 (bg l l.length), .int .i64 0]) ∧ Below W.heap.size W w' := fun v W hp => by
        have := bung_any v l W hp
        unfold buQ at this
        rwa [if_pos e, e] at this
      by_cases g : plE l (min x y) = 0 ∧ plE l (max x y) = 0
      · obtain ⟨_, p0, _⟩ := plE_zero.1 g.1
        obtain ⟨_, _, p1⟩ := plE_zero.1 g.2
        obtain ⟨k1, k2, k3, k4, k5, k6⟩ := bulge_facts hR p0 (show min x y ≤ max x y by omega) p1
        have bs := bg_sides hR
        have rb := rdL_bd hR p0 (show min x y ≤ gX l (l.length - 1) by omega)
        have s1 := at_some g.1
        have s2 := at_some g.2
        obtain ⟨m, hm⟩ : ∃ m, l.length = m + 1 := ⟨l.length - 1, by omega⟩
        have n1 := hR.n1
        have key := good x y (min x y) (max x y) (rdL l (min x y)) (rdH l (min x y)) (rdL l (max x y)) (rdH l (max x y)) _ _ _ _ a m cap (bg l l.length) l w (Lib.hid (by omega)) (by rw [← hm]; exact hv2) rfl rfl (by omega) (by omega) (Lib.hid rfl) (Lib.hid rfl) (Lib.hid rfl) (Lib.hid rfl) (by omega) k1 (by omega) k3 (by rw [hm, show m + 1 - 1 = m by omega] at k4; exact k4) ?_ (by rw [← hm]; exact FW) HU (fun v W hp => ?_) (fun v W hp => ?_)
        · rw [hm]; exact key
        · by_cases q1 : max x y ≤ gX l (bg l l.length)
          · exact .inl ⟨q1, k5 q1⟩
          · by_cases q2 : min x y < gX l (bg l l.length)
            · exact .inr (.inl ⟨q1, q2⟩)
            · exact .inr (.inr ⟨q1, q2, k6 (by omega)⟩)
        · have := At_any v l (min x y) W hp
          rwa [s1.1, s1.2, g.1] at this
        · have := At_any v l (max x y) W hp
          rwa [s2.1, s2.2, g.2] at this
      · refine mid x y (min x y) (max x y) _ _ _ _ _ _ _ a l.length cap l w (Lib.hid (by omega)) hv2 rfl rfl ?_ FW HU (fun v W hp => At_any v l (min x y) W hp) (fun v W hp => At_any v l (max x y) W hp)
        by_cases g1 : plE l (min x y) = 0
        · have g2 : plE l (max x y) ≠ 0 := fun hh => g ⟨g1, hh⟩
          exact .inr ⟨g1, by simpa using g2, by simpa using g2, (at_none g2).1, (at_none g2).2⟩
        · refine .inl ⟨by simpa using g1, by simpa using g1, (at_none g1).1, (at_none g1).2, ?_⟩
          by_cases g2 : plE l (max x y) = 0
          · exact .inr g2
          · exact .inl ⟨by simpa using g2, by simpa using g2, (at_none g2).1, (at_none g2).2⟩
    · refine bad x y _ a l.length cap l w (Lib.hid (by omega)) hv2 (by simpa using e) (by simpa using e) FW (fun v W hp => ?_)
      have := bung_any v l W hp
      unfold buQ at this
      rwa [if_neg e] at this
  · refine long x y a l.length cap w (Lib.hid fun W hW => ?_)
    have := few_any _ l W (hv2.below hW)
    rwa [decide_eq_false h] at this

set_option maxRecDepth 100000 in
theorem lifted (os : Os) (started : os.Started) (H : Type) (enc : TypeId × Value → H) :
    ReturnsInHanded {} Try.checked os 5 .any (Rows.profileBulgesSpec.pre6 enc Try.prog Try.f5 Rows.profileBulgesRow.domain false) (Rows.profileBulgesSpec.post enc Try.prog Try.f5 false true false false) := by
  refine returnsInHanded_of_change (C := Try.checked) own started (by kernel_rfl) Try.func5
    (ChangeSpec.witness6 (enc := enc) (C := Try.checked) false ⟨#[], #[.slice none 0 0, .int .i64 0, .int .i64 0], []⟩ 8 (by kernel_rfl) (by kernel_rfl) (by kernel_rfl) (by kernel_rfl)) ?_
  intro W base args ds gs before hval0 hW hcnd _
  have hval : ∀ (j : Nat) t v, Try.f5.params[j]? = some t → args[j]? = some v → Value.okWide Try.prog W .any base t v := hval0
  clear hval0
  have hW' := hW
  obtain ⟨p, q, hA0, hV, rfl, hfz, hnd⟩ := hW
  have hA : DataW.TrodAll enc Try.prog W 0 (fun _ => true) true Try.f5.params.toList args.toList ds p := hA0
  rw [Try.params5] at hA hval
  obtain ⟨v0, vs0, d0, ds0, p0, q0, hargs, rfl, rfl, h0, r0⟩ := trodAll_cons hA
  obtain ⟨v1, vs1, d1, ds1, p1, q1, rfl, rfl, rfl, h1, r1⟩ := trodAll_cons r0
  obtain ⟨v2, vs2, d2, ds2, p2, q2, rfl, rfl, rfl, h2, r2⟩ := trodAll_cons r1
  obtain ⟨rfl, rfl, rfl⟩ := trodAll_nil r2
  obtain rfl : args = #[v0, v1, v2] := by cases args; simp_all
  obtain ⟨rfl, rfl⟩ := trodVars_none hV
  have k0 := h0
  have lt0 : ∀ x ∈ p0, x.block < W.heap.size := by obtain ⟨m, hm⟩ := k0; exact DataW.trod_lt m _ _ _ hm
  have k1 := h1
  have lt1 : ∀ x ∈ p1, x.block < W.heap.size := by obtain ⟨m, hm⟩ := k1; exact DataW.trod_lt m _ _ _ hm
  have k2 := h2
  have lt2 : ∀ x ∈ p2, x.block < W.heap.size := by obtain ⟨m, hm⟩ := k2; exact DataW.trod_lt m _ _ _ hm
  obtain ⟨z0, w0⟩ := open_pts (hval 0 22 v0 rfl rfl) h0
  obtain ⟨a1, rfl, rfl, rfl, w1⟩ := open_int Try.underlying3 (hval 1 3 v1 rfl rfl) h1
  obtain ⟨a2, rfl, rfl, rfl, w2⟩ := open_int Try.underlying3 (hval 2 3 v2 rfl rfl) h2
  clear hA0
  refine (walk v0 z0 a1 a2 W w0 (wf_bd w1) (wf_bd w2)).mono fun e W' ⟨he, bel⟩ => ?_
  subst he
  exact ⟨_, rfl, _, _, _, [], _, [], hW', trodAll_mk1 (shut_bool Try.underlying4 _), (trodAll_cons_mk (Below.trod laidOut (by kernel_rfl) (of_decide_eq_true (by kernel_rfl)) k0 bel lt0) (trodAll_cons_mk (Below.trod laidOut (by kernel_rfl) (of_decide_eq_true (by kernel_rfl)) k1 bel lt1) (trodAll_cons_mk (Below.trod laidOut (by kernel_rfl) (of_decide_eq_true (by kernel_rfl)) k2 bel lt2) trodAll_mk0))), rfl, bel.frame _, fun h => by cases h⟩

theorem over : Rows.profileBulgesRow.holds Try.pinned (OpenSpec.ofChange Rows.profileBulgesSpec) :=
  OpenClaim.holds_of_wide 5 Try.f5 rfl rfl rfl rfl rfl rfl rfl ⟨rfl, rfl, rfl, rfl, rfl⟩ rfl rfl rfl rfl rfl (by kernel_rfl) Try.func5 (by kernel_rfl)
    (of_decide_eq_true (by kernel_rfl)) (by unfold Func.isWrapper; first | (rw [if_pos (by decide +kernel)]; kernel_rfl) | (rw [if_neg (by decide +kernel)]; exact ⟨rfl, rfl⟩))
    (fun os started H enc _ => lifted os started H enc)

theorem proved : Rows.ProfileBulgesSaid := over
#print axioms proved
end Go.Proofs.Ytlofblpfohnooab.profileBulges
