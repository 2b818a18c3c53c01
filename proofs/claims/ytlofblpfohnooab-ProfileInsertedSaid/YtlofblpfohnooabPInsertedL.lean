/-
  The statement ProfileInserted of spile/spilelaw08 holds: for every input the call returns true, and each argument reads afterwards as it read before.
-/
import Derived.Test.YtlofblpfohnooabPI1
import Derived.Test.YtlofblpfohnooabPO
import Derived.Below
import Derived.Carry
namespace Go.Proofs.Ytlofblpfohnooab.profileInserted
open Go.ChangeShapes Go.WideShapes Go.ChangeAt Go.RowKit
open Go.ChangeMaps (open_string shut_string)
set_option linter.unusedVariables false

set_option maxHeartbeats 4000000 in
theorem long (x y : Int) (a : Option Addr) (n cap : Nat) (w : World)
    (FW : Hid (∀ W, Below w.heap.size w W → Calls Try.prog 10 #[.slice a n cap] W fun e w' => e = .returned (.bool false) ∧ w' = W)) :
    Calls Try.prog 6 #[.slice a n cap, .int .i64 x, .int .i64 y] w fun e w' => e = .returned (.bool true) ∧ Below w.heap.size w w' := by
  have HA := Lib.hid (fun W => awake_any W)
  have HB := Lib.hid ((Below.refl w.heap.size w).alloc (Nat.le_refl _) (.cells #[.int .i64 x] 3))
  go_enter Try.func6, Try.ntmps6
  go_wp2_with fail
  refine (HA.out _).mono ?_
  rintro e w1 ⟨rfl, h1⟩
  replace HB := Lib.hid (bel_trans HB.out h1); clear h1
  go_wp2_with fail
  refine (FW.out _ HB.out).mono ?_
  rintro e w90 ⟨rfl, hw⟩
  subst hw
  go_wp2
  go_returns
  exact ⟨rfl, HB.out⟩
set_option maxHeartbeats 16000000 in
set_option maxRecDepth 100000 in
theorem bad (x y E : Int) (a : Option Addr) (n cap : Nat) (l : List (Int × Int)) (w : World) (hz : Hid (l.length ≤ 1000)) (NV : Hid (Pts w (.slice a n cap) l)) (e1 : (E == 0) = false) (e2 : (E != 0) = true)
    (FW : Hid (∀ W, Below w.heap.size w W → Calls Try.prog 10 #[.slice a n cap] W fun e w' => e = .returned (.bool true) ∧ w' = W))
    (HU : Hid (∀ v W, Pts W v l → Calls Try.prog 20 #[v, .int .i64 x] W fun e w' => ∃ u, e = .returned (.tuple #[u, .int .i64 E]) ∧ Pts w' u [] ∧ Below W.heap.size W w')) :
    Calls Try.prog 6 #[.slice a n cap, .int .i64 x, .int .i64 y] w fun e w' => e = .returned (.bool true) ∧ Below w.heap.size w w' := by
  have HA := Lib.hid (fun W => awake_any W)
  have HB := Lib.hid ((Below.refl w.heap.size w).alloc (Nat.le_refl _) (.cells #[.int .i64 x] 3))
  have X0 : Hid (Bx w.heap.size (w.alloc (.cells #[.int .i64 x] 3)) x) := ⟨by simp [go_sem], by simp⟩
  replace NV := Lib.hid (NV.out.alloc (.cells #[.int .i64 x] 3))
  go_enter Try.func6, Try.ntmps6
  go_wp2_with fail
  refine (HA.out _).mono ?_
  rintro e w1 ⟨rfl, h1⟩
  replace NV := Lib.hid (NV.out.below h1)
  replace X0 := Lib.hid (X0.out.below h1)
  replace HB := Lib.hid (bel_trans HB.out h1); clear h1
  go_wp2_with fail
  refine (FW.out _ HB.out).mono ?_
  rintro e w90 ⟨rfl, hw⟩
  subst hw
  clear FW
  have c0 := X0.out.1
  have CL : Hid (∀ W, Below w90.heap.size w90 W → Calls Try.prog 12 #[.slice a n cap] W fun e w' => ∃ u, e = .returned u ∧ Sn w90 u l w' ∧ w'.cell? ⟨w.heap.size, 0, none⟩ = some (.int .i64 x)) := fun W hW => by
    refine (clone_p _ l W (NV.out.below hW) hz.out).mono ?_
    rintro e w2 ⟨u, rfl, hp, hb⟩
    exact ⟨u, rfl, ⟨hp, bel_trans hW hb⟩, (X0.out.below (bel_trans hW hb)).1⟩
  have IN : Hid (∀ v W, Sn w90 v l W → Calls Try.prog 20 #[v, .int .i64 x] W fun e w' => ∃ u, e = .returned (.tuple #[u, .int .i64 E]) ∧ Sn w90 u [] w') := fun v W hW => by
    refine (HU.out v W hW.1).mono ?_
    rintro e w2 ⟨u, rfl, hp, hb⟩
    exact ⟨u, rfl, hp, bel_trans hW.2 hb⟩
  go_upto_region 5 with fail
  go_cut [7, 8] (fun s f wz => f = .int .i64 E ∧ ∃ wx, wx = wz ∧ Hid (Sn w90 s [] wx))
  case first =>
    go_region_with (first | (go_at_call 12; refine (CL.out _ (by first | exact Below.refl _ _ | exact bel_drew _ | exact bel_trans (bel_drew _) (bel_drew _))).mono ?_; rintro e w2 ⟨V1, rfl, gg, c2⟩; have N1 := Lib.hid gg; clear gg) | (go_at_call 20; refine (IN.out _ _ (by first | exact N1.out | exact N1.out.drew | exact N1.out.drew.drew)).mono ?_; rintro e w3 ⟨V2, rfl, gg⟩; have N2 := Lib.hid gg; clear gg))
    all_goals go_wp2_with fail
    all_goals go_meet
    all_goals exact ⟨rfl, _, rfl, N2⟩
  case rest =>
    obtain ⟨rfl, wx, hwx, N2⟩ := hcut
    subst hwx
    obtain ⟨am, cm, rfl, _, _⟩ := N2.out.1.shape
    go_wp2
    go_returns
    exact ⟨rfl, bel_trans HB.out N2.out.2⟩
set_option maxHeartbeats 32000000 in
set_option maxRecDepth 100000 in
theorem good (x y L H E1 X rb : Int) (a : Option Addr) (n cap p q : Nat) (l m : List (Int × Int)) (w : World) (hz : Hid (l.length ≤ 1000)) (hz2 : Hid (m.length ≤ 1000)) (hm : Hid (m.length = n + 1)) (n0 : 0 < n) (n1 : n ≤ 1000) (hp : p < n) (hq : q < n + 1) (hx : Hid (∃ j, j < m.length ∧ gX m j = x))
    (hr1 : Hid (gR l p = rb)) (hr2 : Hid (gR m q = rb)) (NV : Hid (Pts w (.slice a n cap) l))
    (FW : Hid (∀ W, Below w.heap.size w W → Calls Try.prog 10 #[.slice a n cap] W fun e w' => e = .returned (.bool true) ∧ w' = W))
    (HU : Hid (∀ v W, Pts W v l → Calls Try.prog 20 #[v, .int .i64 x] W fun e w' => ∃ u, e = .returned (.tuple #[u, .int .i64 0]) ∧ Pts w' u m ∧ Below W.heap.size W w'))
    (A1 : Hid (∀ v W, Pts W v l → Calls Try.prog 18 #[v, .int .i64 y] W fun e w' => e = .returned (.tuple #[.agg #[.int .i64 L, .int .i64 H], .int .i64 E1]) ∧ Below W.heap.size W w'))
    (A2 : Hid (∀ v W, Pts W v m → Calls Try.prog 18 #[v, .int .i64 y] W fun e w' => e = .returned (.tuple #[.agg #[.int .i64 L, .int .i64 H], .int .i64 E1]) ∧ Below W.heap.size W w'))
    (HL1 : Hid (∀ v W, Pts W v l → Calls Try.prog 11 #[v] W fun e w' => e = .returned (.tuple #[.int .i64 X, .int .i64 0]) ∧ Below W.heap.size W w'))
    (HL2 : Hid (∀ v W, Pts W v m → Calls Try.prog 11 #[v] W fun e w' => e = .returned (.tuple #[.int .i64 X, .int .i64 0]) ∧ Below W.heap.size W w'))
    (HB1 : Hid (∀ v W, Pts W v l → Calls Try.prog 14 #[v] W fun e w' => e = .returned (.tuple #[.int .i64 p, .int .i64 0]) ∧ Below W.heap.size W w'))
    (HB2 : Hid (∀ v W, Pts W v m → Calls Try.prog 14 #[v] W fun e w' => e = .returned (.tuple #[.int .i64 q, .int .i64 0]) ∧ Below W.heap.size W w')) :
    Calls Try.prog 6 #[.slice a n cap, .int .i64 x, .int .i64 y] w fun e w' => e = .returned (.bool true) ∧ Below w.heap.size w w' := by
  have HA := Lib.hid (fun W => awake_any W)
  have HB := Lib.hid ((Below.refl w.heap.size w).alloc (Nat.le_refl _) (.cells #[.int .i64 x] 3))
  have X0 : Hid (Bx w.heap.size (w.alloc (.cells #[.int .i64 x] 3)) x) := ⟨by simp [go_sem], by simp⟩
  have Q1 : ∀ W, (binOp .eql 33 (.agg #[.int .i64 L, .int .i64 H]) (.agg #[.int .i64 L, .int .i64 H])).run Try.prog W = .ok (.bool true) W := fun W => by rw [run_eql_bounds, show samB L H L H = true by simp [samB]]
  replace NV := Lib.hid (NV.out.alloc (.cells #[.int .i64 x] 3))
  go_enter Try.func6, Try.ntmps6
  go_wp2_with fail
  refine (HA.out _).mono ?_
  rintro e w1 ⟨rfl, h1⟩
  replace NV := Lib.hid (NV.out.below h1)
  replace X0 := Lib.hid (X0.out.below h1)
  replace HB := Lib.hid (bel_trans HB.out h1); clear h1
  go_wp2_with fail
  refine (FW.out _ HB.out).mono ?_
  rintro e w90 ⟨rfl, hw⟩
  subst hw
  clear FW
  have c0 := X0.out.1
  have CL : Hid (∀ W, Below w90.heap.size w90 W → Calls Try.prog 12 #[.slice a n cap] W fun e w' => ∃ u, e = .returned u ∧ Sn w90 u l w' ∧ w'.cell? ⟨w.heap.size, 0, none⟩ = some (.int .i64 x)) := fun W hW => by
    refine (clone_p _ l W (NV.out.below hW) hz.out).mono ?_
    rintro e w2 ⟨u, rfl, hp, hb⟩
    exact ⟨u, rfl, ⟨hp, bel_trans hW hb⟩, (X0.out.below (bel_trans hW hb)).1⟩
  have IN : Hid (∀ v W, Sn w90 v l W → Calls Try.prog 20 #[v, .int .i64 x] W fun e w' => ∃ u, e = .returned (.tuple #[u, .int .i64 0]) ∧ Sn w90 u m w') := fun v W hW => by
    refine (HU.out v W hW.1).mono ?_
    rintro e w2 ⟨u, rfl, hp, hb⟩
    exact ⟨u, rfl, hp, bel_trans hW.2 hb⟩
  go_upto_region 5 with fail
  go_cut [7, 8] (fun s f wz => f = .int .i64 0 ∧ ∃ wx, wx = wz ∧ Hid (Sn w90 s m wx))
  case first =>
    go_region_with (first | (go_at_call 12; refine (CL.out _ (by first | exact Below.refl _ _ | exact bel_drew _ | exact bel_trans (bel_drew _) (bel_drew _))).mono ?_; rintro e w2 ⟨V1, rfl, gg, c2⟩; have N1 := Lib.hid gg; clear gg) | (go_at_call 20; refine (IN.out _ _ (by first | exact N1.out | exact N1.out.drew | exact N1.out.drew.drew)).mono ?_; rintro e w3 ⟨V2, rfl, gg⟩; have N2 := Lib.hid gg; clear gg))
    all_goals go_wp2_with fail
    all_goals go_meet
    all_goals exact ⟨rfl, _, rfl, N2⟩
  case rest =>
    obtain ⟨rfl, wx, hwx, N2⟩ := hcut
    subst hwx
    replace NV := Lib.hid (NV.out.below N2.out.2)
    replace X0 := Lib.hid (X0.out.below N2.out.2)
    replace HB := Lib.hid (bel_trans HB.out N2.out.2)
    have N3 := Lib.hid N2.out.1
    clear N2 CL IN HU c0 HA
    obtain ⟨am, cm, rfl, _, _⟩ := N3.out.shape
    rw [hm.out] at N3
    rw [hm.out]
    go_wp2_with fail
    refine (clone_p _ l _ NV.out hz.out).mono ?_
    rintro e w5 ⟨V1, rfl, hx, h1⟩
    replace NV := Lib.hid (NV.out.below h1)
    replace X0 := Lib.hid (X0.out.below h1)
    replace N3 := Lib.hid (N3.out.below h1)
    replace HB := Lib.hid (bel_trans HB.out h1); clear h1
    have M1 := Lib.hid hx; clear hx
    go_wp2_with fail
    refine (A1.out _ _ M1.out).mono ?_
    rintro e w6 ⟨rfl, h1⟩
    replace NV := Lib.hid ((NV.out.below h1).alloc (.cells #[.int .i64 L, .int .i64 H] 33))
    replace X0 := Lib.hid ((X0.out.below h1).alloc (.cells #[.int .i64 L, .int .i64 H] 33))
    replace N3 := Lib.hid ((N3.out.below h1).alloc (.cells #[.int .i64 L, .int .i64 H] 33))
    replace M1 := Lib.hid ((M1.out.below h1).alloc (.cells #[.int .i64 L, .int .i64 H] 33))
    replace HB := Lib.hid ((bel_trans HB.out h1).alloc (bel_trans HB.out h1).size (.cells #[.int .i64 L, .int .i64 H] 33)); clear h1
    have T1 := Lib.hid (Two.new w6 (.int .i64 L) (.int .i64 H) 33)
    clear M1
    go_wp2_with fail
    refine (clone_p _ m _ N3.out hz2.out).mono ?_
    rintro e w8 ⟨V2, rfl, hx, h1⟩
    replace NV := Lib.hid (NV.out.below h1)
    replace X0 := Lib.hid (X0.out.below h1)
    replace N3 := Lib.hid (N3.out.below h1)
    replace T1 := Lib.hid (T1.out.below h1)
    replace HB := Lib.hid (bel_trans HB.out h1); clear h1
    have M2 := Lib.hid hx; clear hx
    go_wp2_with fail
    refine (A2.out _ _ M2.out).mono ?_
    rintro e w9 ⟨rfl, h1⟩
    replace NV := Lib.hid ((NV.out.below h1).alloc (.cells #[.int .i64 L, .int .i64 H] 33))
    replace X0 := Lib.hid ((X0.out.below h1).alloc (.cells #[.int .i64 L, .int .i64 H] 33))
    replace N3 := Lib.hid ((N3.out.below h1).alloc (.cells #[.int .i64 L, .int .i64 H] 33))
    replace T1 := Lib.hid ((T1.out.below h1).alloc (.cells #[.int .i64 L, .int .i64 H] 33))
    replace M2 := Lib.hid ((M2.out.below h1).alloc (.cells #[.int .i64 L, .int .i64 H] 33))
    replace HB := Lib.hid ((bel_trans HB.out h1).alloc (bel_trans HB.out h1).size (.cells #[.int .i64 L, .int .i64 H] 33)); clear h1
    have T2 := Lib.hid (Two.new w9 (.int .i64 L) (.int .i64 H) 33)
    clear M2
    go_wp2_with fail
    refine (clone_p _ l _ NV.out hz.out).mono ?_
    rintro e w11 ⟨V3, rfl, hx, h1⟩
    replace NV := Lib.hid (NV.out.below h1)
    replace X0 := Lib.hid (X0.out.below h1)
    replace N3 := Lib.hid (N3.out.below h1)
    replace T1 := Lib.hid (T1.out.below h1)
    replace T2 := Lib.hid (T2.out.below h1)
    replace HB := Lib.hid (bel_trans HB.out h1); clear h1
    have M3 := Lib.hid hx; clear hx
    go_wp2_with fail
    refine (HL1.out _ _ M3.out).mono ?_
    rintro e w12 ⟨rfl, h1⟩
    replace NV := Lib.hid (NV.out.below h1)
    replace X0 := Lib.hid (X0.out.below h1)
    replace N3 := Lib.hid (N3.out.below h1)
    replace T1 := Lib.hid (T1.out.below h1)
    replace T2 := Lib.hid (T2.out.below h1)
    replace M3 := Lib.hid (M3.out.below h1)
    replace HB := Lib.hid (bel_trans HB.out h1); clear h1
    clear M3
    go_wp2_with fail
    refine (clone_p _ m _ N3.out hz2.out).mono ?_
    rintro e w14 ⟨V4, rfl, hx, h1⟩
    replace NV := Lib.hid (NV.out.below h1)
    replace X0 := Lib.hid (X0.out.below h1)
    replace N3 := Lib.hid (N3.out.below h1)
    replace T1 := Lib.hid (T1.out.below h1)
    replace T2 := Lib.hid (T2.out.below h1)
    replace HB := Lib.hid (bel_trans HB.out h1); clear h1
    have M4 := Lib.hid hx; clear hx
    go_wp2_with fail
    refine (HL2.out _ _ M4.out).mono ?_
    rintro e w15 ⟨rfl, h1⟩
    replace NV := Lib.hid (NV.out.below h1)
    replace X0 := Lib.hid (X0.out.below h1)
    replace N3 := Lib.hid (N3.out.below h1)
    replace T1 := Lib.hid (T1.out.below h1)
    replace T2 := Lib.hid (T2.out.below h1)
    replace M4 := Lib.hid (M4.out.below h1)
    replace HB := Lib.hid (bel_trans HB.out h1); clear h1
    clear M4
    go_wp2_with fail
    refine (clone_p _ l _ NV.out hz.out).mono ?_
    rintro e w17 ⟨V5, rfl, hx, h1⟩
    replace NV := Lib.hid (NV.out.below h1)
    replace X0 := Lib.hid (X0.out.below h1)
    replace N3 := Lib.hid (N3.out.below h1)
    replace T1 := Lib.hid (T1.out.below h1)
    replace T2 := Lib.hid (T2.out.below h1)
    replace HB := Lib.hid (bel_trans HB.out h1); clear h1
    have M5 := Lib.hid hx; clear hx
    go_wp2_with fail
    refine (HB1.out _ _ M5.out).mono ?_
    rintro e w18 ⟨rfl, h1⟩
    replace NV := Lib.hid (NV.out.below h1)
    replace X0 := Lib.hid (X0.out.below h1)
    replace N3 := Lib.hid (N3.out.below h1)
    replace T1 := Lib.hid (T1.out.below h1)
    replace T2 := Lib.hid (T2.out.below h1)
    replace M5 := Lib.hid (M5.out.below h1)
    replace HB := Lib.hid (bel_trans HB.out h1); clear h1
    clear M5
    go_wp2_with fail
    refine (clone_p _ m _ N3.out hz2.out).mono ?_
    rintro e w20 ⟨V6, rfl, hx, h1⟩
    replace NV := Lib.hid (NV.out.below h1)
    replace X0 := Lib.hid (X0.out.below h1)
    replace N3 := Lib.hid (N3.out.below h1)
    replace T1 := Lib.hid (T1.out.below h1)
    replace T2 := Lib.hid (T2.out.below h1)
    replace HB := Lib.hid (bel_trans HB.out h1); clear h1
    have M6 := Lib.hid hx; clear hx
    go_wp2_with fail
    refine (HB2.out _ _ M6.out).mono ?_
    rintro e w21 ⟨rfl, h1⟩
    replace NV := Lib.hid (NV.out.below h1)
    replace X0 := Lib.hid (X0.out.below h1)
    replace N3 := Lib.hid (N3.out.below h1)
    replace T1 := Lib.hid (T1.out.below h1)
    replace T2 := Lib.hid (T2.out.below h1)
    replace M6 := Lib.hid (M6.out.below h1)
    replace HB := Lib.hid (bel_trans HB.out h1); clear h1
    clear M6
    clear A1 A2 HL1 HL2 HB1 HB2
    have N4 := N3
    obtain ⟨bz, oz, rfl, hbz, hcz⟩ := NV.out.at (by omega)
    obtain ⟨bw, ow, rfl, hbw, hcw⟩ := N4.out.at (by omega)
    have c0 := (hcz p hp).2
    have c1 := (hcw q hq).2
    rw [hr1.out] at c0
    rw [hr2.out] at c1
    clear hcz hcw
    obtain ⟨T10, T11, T12, T13, T14⟩ := T1.out
    obtain ⟨T20, T21, T22, T23, T24⟩ := T2.out
    have wn : IntKind.i64.wrap ((n : Int) + 1) = (n : Int) + 1 := wrap_in _ ⟨by omega, by omega⟩
    have d1 : decide ((p : Int) < (n : Int)) = true := decide_eq_true (by omega)
    have d2 : decide ((q : Int) < (n : Int) + 1) = true := decide_eq_true (by omega)
    have l1 : (p : Int) < (n : Int) := by omega
    have l2 : (q : Int) < (n : Int) + 1 := by omega
    have l3 : 0 ≤ (p : Int) := by omega
    have l4 : 0 ≤ (q : Int) := by omega
    go_wp2_with fail
    have N5 := Lib.hid (N3.out.below (bel_drew _))
    have X5 := Lib.hid (X0.out.below (bel_drew _))
    have B5 := Lib.hid (bel_trans HB.out (bel_drew _))
    refine still_tail 73 (by kernel_rfl) (by kernel_rfl) ?_
    simp only [List.append_eq, List.cons_append, List.nil_append, List.take_succ_cons, List.take_zero, List.drop_succ_cons, List.drop_zero]
    repeat still_step
    refine wpStill_nil ?_
    change wpList _ _ _ _ _ (World.drew (w21))
    generalize World.drew (w21) = w70 at *
    go_wp2_with fail
    refine (contains_x x w.heap.size _ m _ N5.out hz2.out X5.out.2 X5.out.1 hx.out).mono ?_
    rintro e w80 ⟨rfl, h1⟩
    go_wp2
    go_returns
    exact ⟨rfl, bel_trans B5.out h1⟩
theorem walk (z : Value) (l : List (Int × Int)) (x y : Int) (w : World) (hv : Pts w z l) (hx : -9223372036854775808 ≤ x ∧ x ≤ 9223372036854775807) (hy : -9223372036854775808 ≤ y ∧ y ≤ 9223372036854775807) :
    Calls Try.prog 6 #[z, .int .i64 x, .int .i64 y] w fun e w' => e = .returned (.bool true) ∧ Below w.heap.size w w' := by
  have hv2 := hv
  obtain ⟨a, cap, rfl, _, _⟩ := hv.shape
  by_cases h : l.length ≤ 33
  · have FW : ∀ W, Below w.heap.size w W → Calls Try.prog 10 #[.slice a l.length cap] W fun e w' => e = .returned (.bool true) ∧ w' = W := fun W hW => by
      have := few_any _ l W (hv2.below hW)
      rwa [decide_eq_true h] at this
    by_cases e : ixE l x = 0
    · obtain ⟨hI, hL, hp⟩ := ix_in e
      have hR := hI.R
      have hR2 := ins_R hI
      have n0 := hR.n0
      have il : pc l x ≤ l.length := by have := hI.i2; omega
      have hl := ins_len (x, rdL l x) il
      have c1 := (ckE_iff _).2 hR
      have c2 := (ckE_iff _).2 hR2
      have b1 := (bg_sides hR).1
      have b2 := (bg_sides hR2).1
      have lst := ins_last hI
      have pl := ins_pl hI y
      have hB := ins_bg hI
      refine good x y (atL l y) (atH l y) (plE l y) (gX l (l.length - 1)) (gR l (bg l l.length)) a l.length cap (bg l l.length) (bg (ins l (pc l x) (x, rdL l x)) (ins l (pc l x) (x, rdL l x)).length) l (ins l (pc l x) (x, rdL l x)) w (Lib.hid (by omega)) (Lib.hid (by omega)) (Lib.hid hl) (by omega) (by omega) b1 (by omega) (Lib.hid ⟨pc l x, by have := hI.i2; omega, (ins_mi (x, rdL l x) il).1⟩) (Lib.hid rfl) (Lib.hid hB) hv2 FW (fun v W hp => ?_) (fun v W hp => ?_) (fun v W hp => ?_) (fun v W hp => ?_) (fun v W hp => ?_) (fun v W hp => ?_) (fun v W hp => ?_)
      · have := ins_any v l x W hp
        rwa [e, hL] at this
      · exact At_any v l y W hp
      · have := At_any v _ y W hp
        rwa [pl.1, pl.2.1, pl.2.2] at this
      · have := len_any v l W hp
        unfold lgQ at this
        rwa [if_pos c1, c1] at this
      · have := len_any v _ W hp
        unfold lgQ at this
        rwa [if_pos c2, c2, lst] at this
      · have := bung_any v l W hp
        unfold buQ at this
        rwa [if_pos c1, c1] at this
      · have := bung_any v _ W hp
        unfold buQ at this
        rwa [if_pos c2, c2] at this
    · refine bad x y _ a l.length cap l w (Lib.hid (by omega)) hv2 (by simpa using e) (by simpa using e) FW (fun v W hp => ?_)
      have := ins_any v l x W hp
      unfold ixL at this
      rwa [if_neg e] at this
  · refine long x y a l.length cap w (Lib.hid fun W hW => ?_)
    have := few_any _ l W (hv2.below hW)
    rwa [decide_eq_false h] at this

set_option maxRecDepth 100000 in
theorem lifted (os : Os) (started : os.Started) (H : Type) (enc : TypeId × Value → H) :
    ReturnsInHanded {} Try.checked os 6 .any (Rows.profileInsertedSpec.pre6 enc Try.prog Try.f6 Rows.profileInsertedRow.domain false) (Rows.profileInsertedSpec.post enc Try.prog Try.f6 false true false false) := by
  refine returnsInHanded_of_change (C := Try.checked) own started (by kernel_rfl) Try.func6
    (ChangeSpec.witness6 (enc := enc) (C := Try.checked) false ⟨#[], #[.slice none 0 0, .int .i64 0, .int .i64 0], []⟩ 8 (by kernel_rfl) (by kernel_rfl) (by kernel_rfl) (by kernel_rfl)) ?_
  intro W base args ds gs before hval0 hW hcnd _
  have hval : ∀ (j : Nat) t v, Try.f6.params[j]? = some t → args[j]? = some v → Value.okWide Try.prog W .any base t v := hval0
  clear hval0
  have hW' := hW
  obtain ⟨p, q, hA0, hV, rfl, hfz, hnd⟩ := hW
  have hA : DataW.TrodAll enc Try.prog W 0 (fun _ => true) true Try.f6.params.toList args.toList ds p := hA0
  rw [Try.params6] at hA hval
  obtain ⟨v0, vs0, d0, ds0, p0, q0, hargs, rfl, rfl, h0, r0⟩ := trodAll_cons hA
  obtain ⟨v1, vs1, d1, ds1, p1, q1, rfl, rfl, rfl, h1, r1⟩ := trodAll_cons r0
  obtain ⟨v2, vs2, d2, ds2, p2, q2, rfl, rfl, rfl, h2, r2⟩ := trodAll_cons r1
  obtain ⟨rfl, rfl, rfl⟩ := trodAll_nil r2
  obtain rfl : args = #[v0, v1, v2] := by cases args; simp_all
  obtain ⟨rfl, rfl⟩ := trodVars_none hV
  have k0 := h0
  have lt0 : ∀ x ∈ p0, x.block < W.heap.size := by obtain ⟨m, hm⟩ := k0; exact DataW.trod_lt m _ _ _ hm
  have k1 := h1
  have lt1 : ∀ x ∈ p1, x.block < W.heap.size := by obtain ⟨m, hm⟩ := k1; exact DataW.trod_lt m _ _ _ hm
  have k2 := h2
  have lt2 : ∀ x ∈ p2, x.block < W.heap.size := by obtain ⟨m, hm⟩ := k2; exact DataW.trod_lt m _ _ _ hm
  obtain ⟨z0, w0⟩ := open_pts (hval 0 22 v0 rfl rfl) h0
  obtain ⟨a1, rfl, rfl, rfl, w1⟩ := open_int Try.underlying3 (hval 1 3 v1 rfl rfl) h1
  obtain ⟨a2, rfl, rfl, rfl, w2⟩ := open_int Try.underlying3 (hval 2 3 v2 rfl rfl) h2
  clear hA0
  refine (walk v0 z0 a1 a2 W w0 (wf_bd w1) (wf_bd w2)).mono fun e W' ⟨he, bel⟩ => ?_
  subst he
  exact ⟨_, rfl, _, _, _, [], _, [], hW', trodAll_mk1 (shut_bool Try.underlying4 _), (trodAll_cons_mk (Below.trod laidOut (by kernel_rfl) (of_decide_eq_true (by kernel_rfl)) k0 bel lt0) (trodAll_cons_mk (Below.trod laidOut (by kernel_rfl) (of_decide_eq_true (by kernel_rfl)) k1 bel lt1) (trodAll_cons_mk (Below.trod laidOut (by kernel_rfl) (of_decide_eq_true (by kernel_rfl)) k2 bel lt2) trodAll_mk0))), rfl, bel.frame _, fun h => by cases h⟩

theorem over : Rows.profileInsertedRow.holds Try.pinned (OpenSpec.ofChange Rows.profileInsertedSpec) :=
  OpenClaim.holds_of_wide 6 Try.f6 rfl rfl rfl rfl rfl rfl rfl ⟨rfl, rfl, rfl, rfl, rfl⟩ rfl rfl rfl rfl rfl (by kernel_rfl) Try.func6 (by kernel_rfl)
    (of_decide_eq_true (by kernel_rfl)) (by unfold Func.isWrapper; first | (rw [if_pos (by decide +kernel)]; kernel_rfl) | (rw [if_neg (by decide +kernel)]; exact ⟨rfl, rfl⟩))
    (fun os started H enc _ => lifted os started H enc)

theorem proved : Rows.ProfileInsertedSaid := over
#print axioms proved
end Go.Proofs.Ytlofblpfohnooab.profileInserted
