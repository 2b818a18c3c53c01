/-
  The statement InterpolateFalls of spile/spilelaw18 holds: for every input the call returns true, and each argument reads afterwards as it read before.
-/
import Derived.Test.YtadkhhkoankhnaaM1
import Derived.Test.YtadkhhkoankhnaaM2
import Derived.Below
import Derived.Carry
set_option linter.unusedVariables false
set_option linter.unusedSimpArgs false
namespace Go.Proofs.Ytadkhhkoankhnaa.interpolateFalls
open Go.ChangeShapes Go.WideShapes Go.ChangeAt Go.RowKit
open Go.ChangeMaps (open_string shut_string)
set_option linter.unusedVariables false

set_option maxHeartbeats 8000000 in
set_option maxRecDepth 100000 in
theorem long (a : Option Addr) (n cap : Nat) (p q : Int) (l : List (Int × Int)) (w : World) (NV : Hid (Pts w (.slice a n cap) l)) (hf : fwB l.length = false) :
    Calls Try.prog 6 #[.slice a n cap, .int .i64 p, .int .i64 q] w fun e w' => e = .returned (.bool true) ∧ Below w.heap.size w w' := by
  have HA := Lib.hid (fun W => awakeI_any W)
  have FW := Lib.hid (fun v W h => few_any v l W h)
  rw [hf] at FW
  have HB := Lib.hid (Below.refl w.heap.size w)
  go_enter Try.func6, Try.ntmps6
  go_wp2_with fail
  refine (HA.out _).mono ?_
  rintro e w3 ⟨rfl, h1⟩
  replace NV := Lib.hid (NV.out.below h1)
  replace HB := Lib.hid (bel_trans HB.out h1); clear h1
  go_wp2_with fail
  refine (FW.out _ _ NV.out).mono ?_
  rintro e w90 ⟨rfl, hw⟩
  subst hw
  go_wp2
  go_returns
  exact ⟨rfl, HB.out⟩
set_option maxHeartbeats 8000000 in
set_option maxRecDepth 100000 in
theorem bad1 (a : Option Addr) (n cap : Nat) (p q x y E F : Int) (l : List (Int × Int)) (w : World) (NV : Hid (Pts w (.slice a n cap) l)) (hf : fwB l.length = true) (hE : (E != 0) = true) (hE2 : (E == 0) = false)
    (C1 : Hid (∀ W, Pts W (.slice a n cap) l → Calls Try.prog 17 #[.slice a n cap, .int .i64 p] W fun e w' => e = .returned (.tuple #[.int .i64 0, .int .i64 E]) ∧ Below W.heap.size W w'))
    (C2 : Hid (∀ W, Pts W (.slice a n cap) l → Calls Try.prog 17 #[.slice a n cap, .int .i64 q] W fun e w' => e = .returned (.tuple #[.int .i64 y, .int .i64 0]) ∧ Below W.heap.size W w')) :
    Calls Try.prog 6 #[.slice a n cap, .int .i64 p, .int .i64 q] w fun e w' => e = .returned (.bool true) ∧ Below w.heap.size w w' := by
  have HA := Lib.hid (fun W => awakeI_any W)
  have FW := Lib.hid (fun v W h => few_any v l W h)
  rw [hf] at FW
  have HB := Lib.hid (Below.refl w.heap.size w)
  go_enter Try.func6, Try.ntmps6
  go_wp2_with fail
  refine (HA.out _).mono ?_
  rintro e w6 ⟨rfl, h1⟩
  replace NV := Lib.hid (NV.out.below h1)
  replace HB := Lib.hid (bel_trans HB.out h1); clear h1
  go_wp2_with fail
  refine (FW.out _ _ NV.out).mono ?_
  rintro e w90 ⟨rfl, hw⟩
  subst hw
  go_wp2_with fail
  refine (C1.out _ NV.out).mono ?_
  rintro e w7 ⟨rfl, h1⟩
  replace NV := Lib.hid (NV.out.below h1)
  replace HB := Lib.hid (bel_trans HB.out h1); clear h1
  go_wp2_with fail
  refine (C2.out _ NV.out).mono ?_
  rintro e w8 ⟨rfl, h1⟩
  replace NV := Lib.hid (NV.out.below h1)
  replace HB := Lib.hid (bel_trans HB.out h1); clear h1
  go_wp2
  go_returns
  exact ⟨rfl, HB.out⟩
set_option maxHeartbeats 8000000 in
set_option maxRecDepth 100000 in
theorem bad2 (a : Option Addr) (n cap : Nat) (p q x y E F : Int) (l : List (Int × Int)) (w : World) (NV : Hid (Pts w (.slice a n cap) l)) (hf : fwB l.length = true) (hE : (E != 0) = true) (hE2 : (E == 0) = false) (hF : (F == 0) = false)
    (C1 : Hid (∀ W, Pts W (.slice a n cap) l → Calls Try.prog 17 #[.slice a n cap, .int .i64 p] W fun e w' => e = .returned (.tuple #[.int .i64 0, .int .i64 E]) ∧ Below W.heap.size W w'))
    (C2 : Hid (∀ W, Pts W (.slice a n cap) l → Calls Try.prog 17 #[.slice a n cap, .int .i64 q] W fun e w' => e = .returned (.tuple #[.int .i64 0, .int .i64 F]) ∧ Below W.heap.size W w')) :
    Calls Try.prog 6 #[.slice a n cap, .int .i64 p, .int .i64 q] w fun e w' => e = .returned (.bool true) ∧ Below w.heap.size w w' := by
  have HA := Lib.hid (fun W => awakeI_any W)
  have FW := Lib.hid (fun v W h => few_any v l W h)
  rw [hf] at FW
  have HB := Lib.hid (Below.refl w.heap.size w)
  go_enter Try.func6, Try.ntmps6
  go_wp2_with fail
  refine (HA.out _).mono ?_
  rintro e w11 ⟨rfl, h1⟩
  replace NV := Lib.hid (NV.out.below h1)
  replace HB := Lib.hid (bel_trans HB.out h1); clear h1
  go_wp2_with fail
  refine (FW.out _ _ NV.out).mono ?_
  rintro e w90 ⟨rfl, hw⟩
  subst hw
  go_wp2_with fail
  refine (C1.out _ NV.out).mono ?_
  rintro e w12 ⟨rfl, h1⟩
  replace NV := Lib.hid (NV.out.below h1)
  replace HB := Lib.hid (bel_trans HB.out h1); clear h1
  go_wp2_with fail
  refine (C2.out _ NV.out).mono ?_
  rintro e w13 ⟨rfl, h1⟩
  replace NV := Lib.hid (NV.out.below h1)
  replace HB := Lib.hid (bel_trans HB.out h1); clear h1
  go_wp2
  go_returns
  exact ⟨rfl, HB.out⟩
set_option maxHeartbeats 8000000 in
set_option maxRecDepth 100000 in
theorem bad3 (a : Option Addr) (n cap : Nat) (p q x y E F : Int) (l : List (Int × Int)) (w : World) (NV : Hid (Pts w (.slice a n cap) l)) (hf : fwB l.length = true) (hF : (F != 0) = true) (hF2 : (F == 0) = false)
    (C1 : Hid (∀ W, Pts W (.slice a n cap) l → Calls Try.prog 17 #[.slice a n cap, .int .i64 p] W fun e w' => e = .returned (.tuple #[.int .i64 x, .int .i64 0]) ∧ Below W.heap.size W w'))
    (C2 : Hid (∀ W, Pts W (.slice a n cap) l → Calls Try.prog 17 #[.slice a n cap, .int .i64 q] W fun e w' => e = .returned (.tuple #[.int .i64 0, .int .i64 F]) ∧ Below W.heap.size W w')) :
    Calls Try.prog 6 #[.slice a n cap, .int .i64 p, .int .i64 q] w fun e w' => e = .returned (.bool true) ∧ Below w.heap.size w w' := by
  have HA := Lib.hid (fun W => awakeI_any W)
  have FW := Lib.hid (fun v W h => few_any v l W h)
  rw [hf] at FW
  have HB := Lib.hid (Below.refl w.heap.size w)
  go_enter Try.func6, Try.ntmps6
  go_wp2_with fail
  refine (HA.out _).mono ?_
  rintro e w16 ⟨rfl, h1⟩
  replace NV := Lib.hid (NV.out.below h1)
  replace HB := Lib.hid (bel_trans HB.out h1); clear h1
  go_wp2_with fail
  refine (FW.out _ _ NV.out).mono ?_
  rintro e w90 ⟨rfl, hw⟩
  subst hw
  go_wp2_with fail
  refine (C1.out _ NV.out).mono ?_
  rintro e w17 ⟨rfl, h1⟩
  replace NV := Lib.hid (NV.out.below h1)
  replace HB := Lib.hid (bel_trans HB.out h1); clear h1
  go_wp2_with fail
  refine (C2.out _ NV.out).mono ?_
  rintro e w18 ⟨rfl, h1⟩
  replace NV := Lib.hid (NV.out.below h1)
  replace HB := Lib.hid (bel_trans HB.out h1); clear h1
  go_wp2
  go_returns
  exact ⟨rfl, HB.out⟩
set_option maxHeartbeats 32000000 in
set_option maxRecDepth 100000 in
theorem goodA (a : Option Addr) (n cap : Nat) (p q x y : Int) (k : Nat) (l : List (Int × Int)) (w : World) (NV : Hid (Pts w (.slice a n cap) l)) (hf : fwB l.length = true) (n1 : n ≤ 128) (hk : k < n) (hk1 : k + 1 < n) (h1 : x ≤ gR l k) (h2 : k + 1 < n → ¬ x < gR l (k + 1)) (hpq : (decide (p ≤ q) = true ∧ decide (x < y) = false ∧ decide (q ≤ p) = true ∧ decide (y < x) = false) ∨ (decide (p ≤ q) = true ∧ decide (x < y) = false ∧ decide (q ≤ p) = false) ∨ (decide (p ≤ q) = false ∧ decide (q ≤ p) = true ∧ decide (y < x) = false))
    (C1 : Hid (∀ W, Pts W (.slice a n cap) l → Calls Try.prog 17 #[.slice a n cap, .int .i64 p] W fun e w' => e = .returned (.tuple #[.int .i64 x, .int .i64 0]) ∧ Below W.heap.size W w'))
    (C2 : Hid (∀ W, Pts W (.slice a n cap) l → Calls Try.prog 17 #[.slice a n cap, .int .i64 q] W fun e w' => e = .returned (.tuple #[.int .i64 y, .int .i64 0]) ∧ Below W.heap.size W w'))
    (C3 : Hid (∀ W, Pts W (.slice a n cap) l → Calls Try.prog 30 #[.slice a n cap, .int .i64 p] W fun e w' => e = .returned (.tuple #[.int .i64 (k : Int), .int .i64 0]) ∧ Below W.heap.size W w'))
    (C4 : Hid (∀ j, j < n → ∀ W, Pts W (.slice a n cap) l → Calls Try.prog 17 #[.slice a n cap, .int .i64 (gX l j)] W fun e w' => e = .returned (.tuple #[.int .i64 (gR l j), .int .i64 0]) ∧ Below W.heap.size W w')) :
    Calls Try.prog 6 #[.slice a n cap, .int .i64 p, .int .i64 q] w fun e w' => e = .returned (.bool true) ∧ Below w.heap.size w w' := by
  have l0 : (k : Int) < (n : Int) := by omega
  have dn : decide ((n : Int) ≤ (k : Int)) = false := decide_eq_false (by omega)
  have dn3 : decide (n ≤ k) = false := decide_eq_false (by omega)
  have dk9 : decide ((k : Int) < 0) = false := decide_eq_false (by omega)
  have dk0 : decide (gR l k < x) = false := decide_eq_false (by omega)
  have wk : IntKind.i64.wrap ((k : Int) + 1) = ((k + 1 : Nat) : Int) := by rw [wrap_in _ ⟨by omega, by omega⟩]; omega
  rcases hpq with ⟨p1, p2, p3, p4⟩ | ⟨p1, p2, p3⟩ | ⟨p1, p3, p4⟩
  ·   have HA := Lib.hid (fun W => awakeI_any W)
      have FW := Lib.hid (fun v W h => few_any v l W h)
      rw [hf] at FW
      have HB := Lib.hid (Below.refl w.heap.size w)
      go_enter Try.func6, Try.ntmps6
      go_wp2_with fail
      refine (HA.out _).mono ?_
      rintro e w21 ⟨rfl, h1⟩
      replace NV := Lib.hid (NV.out.below h1)
      replace HB := Lib.hid (bel_trans HB.out h1); clear h1
      go_wp2_with fail
      refine (FW.out _ _ NV.out).mono ?_
      rintro e w90 ⟨rfl, hw⟩
      subst hw
      go_wp2_with fail
      refine (C1.out _ NV.out).mono ?_
      rintro e w22 ⟨rfl, h1⟩
      replace NV := Lib.hid (NV.out.below h1)
      replace HB := Lib.hid (bel_trans HB.out h1); clear h1
      go_wp2_with fail
      refine (C2.out _ NV.out).mono ?_
      rintro e w23 ⟨rfl, h1⟩
      replace NV := Lib.hid (NV.out.below h1)
      replace HB := Lib.hid (bel_trans HB.out h1); clear h1
      go_wp2_with fail
      refine (C3.out _ NV.out).mono ?_
      rintro e w24 ⟨rfl, h1⟩
      replace NV := Lib.hid (NV.out.below h1)
      replace HB := Lib.hid (bel_trans HB.out h1); clear h1
      obtain ⟨b, off, rfl, hb, hc⟩ := NV.out.at (by omega)
      have c0 := (hc k hk).2
      have HC := Lib.hid hc
      have HC1 := Lib.hid (fun h => hc (k + 1) h)
      clear hc
      have c1 := (HC1.out hk1).2
      have l2 : decide (((k + 1 : Nat) : Int) < (n : Int)) = true := decide_eq_true (by omega)
      have l1 : ((k + 1 : Nat) : Int) < (n : Int) := by omega
      have dz : decide (x < gR l (k + 1)) = false := decide_eq_false (by have := h2 hk1; omega)
      generalize gR l k = y0 at *
      replace hk := Lib.hid hk
      clear h1 h2
      generalize gR l (k + 1) = z0 at *
      generalize hq1 : k + 1 = k1 at *
      go_wp2_with fail
      go_loopw [120] (fun ii wr => ∃ j : Nat, j ≤ n ∧ ii = .int .i64 (j : Int) ∧ Hid (Below w.heap.size w wr) ∧ Hid (Pts wr (.slice (some ⟨b, off, none⟩) n cap) l)) (fun ii _ => n - (intOf ii).toNat)
      case atStart => exact ⟨0, Nat.zero_le _, rfl, HB, NV⟩
      case round =>
        clear NV HB c0 HC HC1 c1
        obtain ⟨j, hj, rfl, hR, NR⟩ := hrel
        by_cases hlt : j < n
        · have l9 : (j : Int) < (n : Int) := by omega
          obtain ⟨b', off', eb, hb2, hc2⟩ := NR.out.at (by omega)
          simp only [Option.some.injEq, Addr.mk.injEq] at eb
          obtain ⟨rfl, rfl, _⟩ := eb
          obtain ⟨q0, q1⟩ := hc2 j hlt
          clear hc2
          have HD := Lib.hid (C4.out j hlt)
          generalize gX l j = x9 at *
          generalize gR l j = r9 at *
          have T1 := Lib.hid (Two.new wr (.int .i64 x9) (.int .i64 r9) 42)
          have XR : Hid (Below w.heap.size w (wr.alloc (.cells #[.int .i64 x9, .int .i64 r9] 42))) := Lib.hid (bel_trans hR.out (bel_alloc (Below.refl _ _)))
          replace NR := Lib.hid (NR.out.alloc (.cells #[.int .i64 x9, .int .i64 r9] 42))
          obtain ⟨t0, t1, _, _, _⟩ := T1.out
          go_wp2_with fail
          refine (HD.out _ NR.out).mono ?_
          rintro e w71 ⟨rfl, g1⟩
          replace T1 := Lib.hid (T1.out.below g1)
          replace XR := Lib.hid (bel_trans XR.out g1)
          replace NR := Lib.hid (NR.out.below g1)
          obtain ⟨t0, t1, _, _, _⟩ := T1.out
          clear g1
          go_wp2
          go_roundw
          case rel => exact ⟨j + 1, by omega, by go_num, XR, NR⟩
          case measure => simp [intOf]; omega
        · obtain rfl : j = n := by omega
          go_wp2
          go_returns
          exact ⟨rfl, hR.out⟩
  ·   have HA := Lib.hid (fun W => awakeI_any W)
      have FW := Lib.hid (fun v W h => few_any v l W h)
      rw [hf] at FW
      have HB := Lib.hid (Below.refl w.heap.size w)
      go_enter Try.func6, Try.ntmps6
      go_wp2_with fail
      refine (HA.out _).mono ?_
      rintro e w27 ⟨rfl, h1⟩
      replace NV := Lib.hid (NV.out.below h1)
      replace HB := Lib.hid (bel_trans HB.out h1); clear h1
      go_wp2_with fail
      refine (FW.out _ _ NV.out).mono ?_
      rintro e w90 ⟨rfl, hw⟩
      subst hw
      go_wp2_with fail
      refine (C1.out _ NV.out).mono ?_
      rintro e w28 ⟨rfl, h1⟩
      replace NV := Lib.hid (NV.out.below h1)
      replace HB := Lib.hid (bel_trans HB.out h1); clear h1
      go_wp2_with fail
      refine (C2.out _ NV.out).mono ?_
      rintro e w29 ⟨rfl, h1⟩
      replace NV := Lib.hid (NV.out.below h1)
      replace HB := Lib.hid (bel_trans HB.out h1); clear h1
      go_wp2_with fail
      refine (C3.out _ NV.out).mono ?_
      rintro e w30 ⟨rfl, h1⟩
      replace NV := Lib.hid (NV.out.below h1)
      replace HB := Lib.hid (bel_trans HB.out h1); clear h1
      obtain ⟨b, off, rfl, hb, hc⟩ := NV.out.at (by omega)
      have c0 := (hc k hk).2
      have HC := Lib.hid hc
      have HC1 := Lib.hid (fun h => hc (k + 1) h)
      clear hc
      have c1 := (HC1.out hk1).2
      have l2 : decide (((k + 1 : Nat) : Int) < (n : Int)) = true := decide_eq_true (by omega)
      have l1 : ((k + 1 : Nat) : Int) < (n : Int) := by omega
      have dz : decide (x < gR l (k + 1)) = false := decide_eq_false (by have := h2 hk1; omega)
      generalize gR l k = y0 at *
      replace hk := Lib.hid hk
      clear h1 h2
      generalize gR l (k + 1) = z0 at *
      generalize hq1 : k + 1 = k1 at *
      go_wp2_with fail
      go_loopw [120] (fun ii wr => ∃ j : Nat, j ≤ n ∧ ii = .int .i64 (j : Int) ∧ Hid (Below w.heap.size w wr) ∧ Hid (Pts wr (.slice (some ⟨b, off, none⟩) n cap) l)) (fun ii _ => n - (intOf ii).toNat)
      case atStart => exact ⟨0, Nat.zero_le _, rfl, HB, NV⟩
      case round =>
        clear NV HB c0 HC HC1 c1
        obtain ⟨j, hj, rfl, hR, NR⟩ := hrel
        by_cases hlt : j < n
        · have l9 : (j : Int) < (n : Int) := by omega
          obtain ⟨b', off', eb, hb2, hc2⟩ := NR.out.at (by omega)
          simp only [Option.some.injEq, Addr.mk.injEq] at eb
          obtain ⟨rfl, rfl, _⟩ := eb
          obtain ⟨q0, q1⟩ := hc2 j hlt
          clear hc2
          have HD := Lib.hid (C4.out j hlt)
          generalize gX l j = x9 at *
          generalize gR l j = r9 at *
          have T1 := Lib.hid (Two.new wr (.int .i64 x9) (.int .i64 r9) 42)
          have XR : Hid (Below w.heap.size w (wr.alloc (.cells #[.int .i64 x9, .int .i64 r9] 42))) := Lib.hid (bel_trans hR.out (bel_alloc (Below.refl _ _)))
          replace NR := Lib.hid (NR.out.alloc (.cells #[.int .i64 x9, .int .i64 r9] 42))
          obtain ⟨t0, t1, _, _, _⟩ := T1.out
          go_wp2_with fail
          refine (HD.out _ NR.out).mono ?_
          rintro e w71 ⟨rfl, g1⟩
          replace T1 := Lib.hid (T1.out.below g1)
          replace XR := Lib.hid (bel_trans XR.out g1)
          replace NR := Lib.hid (NR.out.below g1)
          obtain ⟨t0, t1, _, _, _⟩ := T1.out
          clear g1
          go_wp2
          go_roundw
          case rel => exact ⟨j + 1, by omega, by go_num, XR, NR⟩
          case measure => simp [intOf]; omega
        · obtain rfl : j = n := by omega
          go_wp2
          go_returns
          exact ⟨rfl, hR.out⟩
  ·   have HA := Lib.hid (fun W => awakeI_any W)
      have FW := Lib.hid (fun v W h => few_any v l W h)
      rw [hf] at FW
      have HB := Lib.hid (Below.refl w.heap.size w)
      go_enter Try.func6, Try.ntmps6
      go_wp2_with fail
      refine (HA.out _).mono ?_
      rintro e w33 ⟨rfl, h1⟩
      replace NV := Lib.hid (NV.out.below h1)
      replace HB := Lib.hid (bel_trans HB.out h1); clear h1
      go_wp2_with fail
      refine (FW.out _ _ NV.out).mono ?_
      rintro e w90 ⟨rfl, hw⟩
      subst hw
      go_wp2_with fail
      refine (C1.out _ NV.out).mono ?_
      rintro e w34 ⟨rfl, h1⟩
      replace NV := Lib.hid (NV.out.below h1)
      replace HB := Lib.hid (bel_trans HB.out h1); clear h1
      go_wp2_with fail
      refine (C2.out _ NV.out).mono ?_
      rintro e w35 ⟨rfl, h1⟩
      replace NV := Lib.hid (NV.out.below h1)
      replace HB := Lib.hid (bel_trans HB.out h1); clear h1
      go_wp2_with fail
      refine (C3.out _ NV.out).mono ?_
      rintro e w36 ⟨rfl, h1⟩
      replace NV := Lib.hid (NV.out.below h1)
      replace HB := Lib.hid (bel_trans HB.out h1); clear h1
      obtain ⟨b, off, rfl, hb, hc⟩ := NV.out.at (by omega)
      have c0 := (hc k hk).2
      have HC := Lib.hid hc
      have HC1 := Lib.hid (fun h => hc (k + 1) h)
      clear hc
      have c1 := (HC1.out hk1).2
      have l2 : decide (((k + 1 : Nat) : Int) < (n : Int)) = true := decide_eq_true (by omega)
      have l1 : ((k + 1 : Nat) : Int) < (n : Int) := by omega
      have dz : decide (x < gR l (k + 1)) = false := decide_eq_false (by have := h2 hk1; omega)
      generalize gR l k = y0 at *
      replace hk := Lib.hid hk
      clear h1 h2
      generalize gR l (k + 1) = z0 at *
      generalize hq1 : k + 1 = k1 at *
      go_wp2_with fail
      go_loopw [120] (fun ii wr => ∃ j : Nat, j ≤ n ∧ ii = .int .i64 (j : Int) ∧ Hid (Below w.heap.size w wr) ∧ Hid (Pts wr (.slice (some ⟨b, off, none⟩) n cap) l)) (fun ii _ => n - (intOf ii).toNat)
      case atStart => exact ⟨0, Nat.zero_le _, rfl, HB, NV⟩
      case round =>
        clear NV HB c0 HC HC1 c1
        obtain ⟨j, hj, rfl, hR, NR⟩ := hrel
        by_cases hlt : j < n
        · have l9 : (j : Int) < (n : Int) := by omega
          obtain ⟨b', off', eb, hb2, hc2⟩ := NR.out.at (by omega)
          simp only [Option.some.injEq, Addr.mk.injEq] at eb
          obtain ⟨rfl, rfl, _⟩ := eb
          obtain ⟨q0, q1⟩ := hc2 j hlt
          clear hc2
          have HD := Lib.hid (C4.out j hlt)
          generalize gX l j = x9 at *
          generalize gR l j = r9 at *
          have T1 := Lib.hid (Two.new wr (.int .i64 x9) (.int .i64 r9) 42)
          have XR : Hid (Below w.heap.size w (wr.alloc (.cells #[.int .i64 x9, .int .i64 r9] 42))) := Lib.hid (bel_trans hR.out (bel_alloc (Below.refl _ _)))
          replace NR := Lib.hid (NR.out.alloc (.cells #[.int .i64 x9, .int .i64 r9] 42))
          obtain ⟨t0, t1, _, _, _⟩ := T1.out
          go_wp2_with fail
          refine (HD.out _ NR.out).mono ?_
          rintro e w71 ⟨rfl, g1⟩
          replace T1 := Lib.hid (T1.out.below g1)
          replace XR := Lib.hid (bel_trans XR.out g1)
          replace NR := Lib.hid (NR.out.below g1)
          obtain ⟨t0, t1, _, _, _⟩ := T1.out
          clear g1
          go_wp2
          go_roundw
          case rel => exact ⟨j + 1, by omega, by go_num, XR, NR⟩
          case measure => simp [intOf]; omega
        · obtain rfl : j = n := by omega
          go_wp2
          go_returns
          exact ⟨rfl, hR.out⟩
set_option maxHeartbeats 32000000 in
set_option maxRecDepth 100000 in
theorem goodB (a : Option Addr) (n cap : Nat) (p q x y : Int) (k : Nat) (l : List (Int × Int)) (w : World) (NV : Hid (Pts w (.slice a n cap) l)) (hf : fwB l.length = true) (n1 : n ≤ 128) (hk : k < n) (hk1 : ¬ k + 1 < n) (h1 : x ≤ gR l k) (h2 : k + 1 < n → ¬ x < gR l (k + 1)) (hpq : (decide (p ≤ q) = true ∧ decide (x < y) = false ∧ decide (q ≤ p) = true ∧ decide (y < x) = false) ∨ (decide (p ≤ q) = true ∧ decide (x < y) = false ∧ decide (q ≤ p) = false) ∨ (decide (p ≤ q) = false ∧ decide (q ≤ p) = true ∧ decide (y < x) = false))
    (C1 : Hid (∀ W, Pts W (.slice a n cap) l → Calls Try.prog 17 #[.slice a n cap, .int .i64 p] W fun e w' => e = .returned (.tuple #[.int .i64 x, .int .i64 0]) ∧ Below W.heap.size W w'))
    (C2 : Hid (∀ W, Pts W (.slice a n cap) l → Calls Try.prog 17 #[.slice a n cap, .int .i64 q] W fun e w' => e = .returned (.tuple #[.int .i64 y, .int .i64 0]) ∧ Below W.heap.size W w'))
    (C3 : Hid (∀ W, Pts W (.slice a n cap) l → Calls Try.prog 30 #[.slice a n cap, .int .i64 p] W fun e w' => e = .returned (.tuple #[.int .i64 (k : Int), .int .i64 0]) ∧ Below W.heap.size W w'))
    (C4 : Hid (∀ j, j < n → ∀ W, Pts W (.slice a n cap) l → Calls Try.prog 17 #[.slice a n cap, .int .i64 (gX l j)] W fun e w' => e = .returned (.tuple #[.int .i64 (gR l j), .int .i64 0]) ∧ Below W.heap.size W w')) :
    Calls Try.prog 6 #[.slice a n cap, .int .i64 p, .int .i64 q] w fun e w' => e = .returned (.bool true) ∧ Below w.heap.size w w' := by
  have l0 : (k : Int) < (n : Int) := by omega
  have dn : decide ((n : Int) ≤ (k : Int)) = false := decide_eq_false (by omega)
  have dn3 : decide (n ≤ k) = false := decide_eq_false (by omega)
  have dk9 : decide ((k : Int) < 0) = false := decide_eq_false (by omega)
  have dk0 : decide (gR l k < x) = false := decide_eq_false (by omega)
  have wk : IntKind.i64.wrap ((k : Int) + 1) = ((k + 1 : Nat) : Int) := by rw [wrap_in _ ⟨by omega, by omega⟩]; omega
  rcases hpq with ⟨p1, p2, p3, p4⟩ | ⟨p1, p2, p3⟩ | ⟨p1, p3, p4⟩
  ·   have HA := Lib.hid (fun W => awakeI_any W)
      have FW := Lib.hid (fun v W h => few_any v l W h)
      rw [hf] at FW
      have HB := Lib.hid (Below.refl w.heap.size w)
      go_enter Try.func6, Try.ntmps6
      go_wp2_with fail
      refine (HA.out _).mono ?_
      rintro e w39 ⟨rfl, h1⟩
      replace NV := Lib.hid (NV.out.below h1)
      replace HB := Lib.hid (bel_trans HB.out h1); clear h1
      go_wp2_with fail
      refine (FW.out _ _ NV.out).mono ?_
      rintro e w90 ⟨rfl, hw⟩
      subst hw
      go_wp2_with fail
      refine (C1.out _ NV.out).mono ?_
      rintro e w40 ⟨rfl, h1⟩
      replace NV := Lib.hid (NV.out.below h1)
      replace HB := Lib.hid (bel_trans HB.out h1); clear h1
      go_wp2_with fail
      refine (C2.out _ NV.out).mono ?_
      rintro e w41 ⟨rfl, h1⟩
      replace NV := Lib.hid (NV.out.below h1)
      replace HB := Lib.hid (bel_trans HB.out h1); clear h1
      go_wp2_with fail
      refine (C3.out _ NV.out).mono ?_
      rintro e w42 ⟨rfl, h1⟩
      replace NV := Lib.hid (NV.out.below h1)
      replace HB := Lib.hid (bel_trans HB.out h1); clear h1
      obtain ⟨b, off, rfl, hb, hc⟩ := NV.out.at (by omega)
      have c0 := (hc k hk).2
      have HC := Lib.hid hc
      have HC1 := Lib.hid (fun h => hc (k + 1) h)
      clear hc
      have l2 : decide (((k + 1 : Nat) : Int) < (n : Int)) = false := decide_eq_false (by omega)
      generalize gR l k = y0 at *
      replace hk := Lib.hid hk
      clear h1 h2
      generalize hq1 : k + 1 = k1 at *
      go_wp2_with fail
      go_loopw [120] (fun ii wr => ∃ j : Nat, j ≤ n ∧ ii = .int .i64 (j : Int) ∧ Hid (Below w.heap.size w wr) ∧ Hid (Pts wr (.slice (some ⟨b, off, none⟩) n cap) l)) (fun ii _ => n - (intOf ii).toNat)
      case atStart => exact ⟨0, Nat.zero_le _, rfl, HB, NV⟩
      case round =>
        clear NV HB c0 HC HC1 
        obtain ⟨j, hj, rfl, hR, NR⟩ := hrel
        by_cases hlt : j < n
        · have l9 : (j : Int) < (n : Int) := by omega
          obtain ⟨b', off', eb, hb2, hc2⟩ := NR.out.at (by omega)
          simp only [Option.some.injEq, Addr.mk.injEq] at eb
          obtain ⟨rfl, rfl, _⟩ := eb
          obtain ⟨q0, q1⟩ := hc2 j hlt
          clear hc2
          have HD := Lib.hid (C4.out j hlt)
          generalize gX l j = x9 at *
          generalize gR l j = r9 at *
          have T1 := Lib.hid (Two.new wr (.int .i64 x9) (.int .i64 r9) 42)
          have XR : Hid (Below w.heap.size w (wr.alloc (.cells #[.int .i64 x9, .int .i64 r9] 42))) := Lib.hid (bel_trans hR.out (bel_alloc (Below.refl _ _)))
          replace NR := Lib.hid (NR.out.alloc (.cells #[.int .i64 x9, .int .i64 r9] 42))
          obtain ⟨t0, t1, _, _, _⟩ := T1.out
          go_wp2_with fail
          refine (HD.out _ NR.out).mono ?_
          rintro e w71 ⟨rfl, g1⟩
          replace T1 := Lib.hid (T1.out.below g1)
          replace XR := Lib.hid (bel_trans XR.out g1)
          replace NR := Lib.hid (NR.out.below g1)
          obtain ⟨t0, t1, _, _, _⟩ := T1.out
          clear g1
          go_wp2
          go_roundw
          case rel => exact ⟨j + 1, by omega, by go_num, XR, NR⟩
          case measure => simp [intOf]; omega
        · obtain rfl : j = n := by omega
          go_wp2
          go_returns
          exact ⟨rfl, hR.out⟩
  ·   have HA := Lib.hid (fun W => awakeI_any W)
      have FW := Lib.hid (fun v W h => few_any v l W h)
      rw [hf] at FW
      have HB := Lib.hid (Below.refl w.heap.size w)
      go_enter Try.func6, Try.ntmps6
      go_wp2_with fail
      refine (HA.out _).mono ?_
      rintro e w45 ⟨rfl, h1⟩
      replace NV := Lib.hid (NV.out.below h1)
      replace HB := Lib.hid (bel_trans HB.out h1); clear h1
      go_wp2_with fail
      refine (FW.out _ _ NV.out).mono ?_
      rintro e w90 ⟨rfl, hw⟩
      subst hw
      go_wp2_with fail
      refine (C1.out _ NV.out).mono ?_
      rintro e w46 ⟨rfl, h1⟩
      replace NV := Lib.hid (NV.out.below h1)
      replace HB := Lib.hid (bel_trans HB.out h1); clear h1
      go_wp2_with fail
      refine (C2.out _ NV.out).mono ?_
      rintro e w47 ⟨rfl, h1⟩
      replace NV := Lib.hid (NV.out.below h1)
      replace HB := Lib.hid (bel_trans HB.out h1); clear h1
      go_wp2_with fail
      refine (C3.out _ NV.out).mono ?_
      rintro e w48 ⟨rfl, h1⟩
      replace NV := Lib.hid (NV.out.below h1)
      replace HB := Lib.hid (bel_trans HB.out h1); clear h1
      obtain ⟨b, off, rfl, hb, hc⟩ := NV.out.at (by omega)
      have c0 := (hc k hk).2
      have HC := Lib.hid hc
      have HC1 := Lib.hid (fun h => hc (k + 1) h)
      clear hc
      have l2 : decide (((k + 1 : Nat) : Int) < (n : Int)) = false := decide_eq_false (by omega)
      generalize gR l k = y0 at *
      replace hk := Lib.hid hk
      clear h1 h2
      generalize hq1 : k + 1 = k1 at *
      go_wp2_with fail
      go_loopw [120] (fun ii wr => ∃ j : Nat, j ≤ n ∧ ii = .int .i64 (j : Int) ∧ Hid (Below w.heap.size w wr) ∧ Hid (Pts wr (.slice (some ⟨b, off, none⟩) n cap) l)) (fun ii _ => n - (intOf ii).toNat)
      case atStart => exact ⟨0, Nat.zero_le _, rfl, HB, NV⟩
      case round =>
        clear NV HB c0 HC HC1 
        obtain ⟨j, hj, rfl, hR, NR⟩ := hrel
        by_cases hlt : j < n
        · have l9 : (j : Int) < (n : Int) := by omega
          obtain ⟨b', off', eb, hb2, hc2⟩ := NR.out.at (by omega)
          simp only [Option.some.injEq, Addr.mk.injEq] at eb
          obtain ⟨rfl, rfl, _⟩ := eb
          obtain ⟨q0, q1⟩ := hc2 j hlt
          clear hc2
          have HD := Lib.hid (C4.out j hlt)
          generalize gX l j = x9 at *
          generalize gR l j = r9 at *
          have T1 := Lib.hid (Two.new wr (.int .i64 x9) (.int .i64 r9) 42)
          have XR : Hid (Below w.heap.size w (wr.alloc (.cells #[.int .i64 x9, .int .i64 r9] 42))) := Lib.hid (bel_trans hR.out (bel_alloc (Below.refl _ _)))
          replace NR := Lib.hid (NR.out.alloc (.cells #[.int .i64 x9, .int .i64 r9] 42))
          obtain ⟨t0, t1, _, _, _⟩ := T1.out
          go_wp2_with fail
          refine (HD.out _ NR.out).mono ?_
          rintro e w71 ⟨rfl, g1⟩
          replace T1 := Lib.hid (T1.out.below g1)
          replace XR := Lib.hid (bel_trans XR.out g1)
          replace NR := Lib.hid (NR.out.below g1)
          obtain ⟨t0, t1, _, _, _⟩ := T1.out
          clear g1
          go_wp2
          go_roundw
          case rel => exact ⟨j + 1, by omega, by go_num, XR, NR⟩
          case measure => simp [intOf]; omega
        · obtain rfl : j = n := by omega
          go_wp2
          go_returns
          exact ⟨rfl, hR.out⟩
  ·   have HA := Lib.hid (fun W => awakeI_any W)
      have FW := Lib.hid (fun v W h => few_any v l W h)
      rw [hf] at FW
      have HB := Lib.hid (Below.refl w.heap.size w)
      go_enter Try.func6, Try.ntmps6
      go_wp2_with fail
      refine (HA.out _).mono ?_
      rintro e w51 ⟨rfl, h1⟩
      replace NV := Lib.hid (NV.out.below h1)
      replace HB := Lib.hid (bel_trans HB.out h1); clear h1
      go_wp2_with fail
      refine (FW.out _ _ NV.out).mono ?_
      rintro e w90 ⟨rfl, hw⟩
      subst hw
      go_wp2_with fail
      refine (C1.out _ NV.out).mono ?_
      rintro e w52 ⟨rfl, h1⟩
      replace NV := Lib.hid (NV.out.below h1)
      replace HB := Lib.hid (bel_trans HB.out h1); clear h1
      go_wp2_with fail
      refine (C2.out _ NV.out).mono ?_
      rintro e w53 ⟨rfl, h1⟩
      replace NV := Lib.hid (NV.out.below h1)
      replace HB := Lib.hid (bel_trans HB.out h1); clear h1
      go_wp2_with fail
      refine (C3.out _ NV.out).mono ?_
      rintro e w54 ⟨rfl, h1⟩
      replace NV := Lib.hid (NV.out.below h1)
      replace HB := Lib.hid (bel_trans HB.out h1); clear h1
      obtain ⟨b, off, rfl, hb, hc⟩ := NV.out.at (by omega)
      have c0 := (hc k hk).2
      have HC := Lib.hid hc
      have HC1 := Lib.hid (fun h => hc (k + 1) h)
      clear hc
      have l2 : decide (((k + 1 : Nat) : Int) < (n : Int)) = false := decide_eq_false (by omega)
      generalize gR l k = y0 at *
      replace hk := Lib.hid hk
      clear h1 h2
      generalize hq1 : k + 1 = k1 at *
      go_wp2_with fail
      go_loopw [120] (fun ii wr => ∃ j : Nat, j ≤ n ∧ ii = .int .i64 (j : Int) ∧ Hid (Below w.heap.size w wr) ∧ Hid (Pts wr (.slice (some ⟨b, off, none⟩) n cap) l)) (fun ii _ => n - (intOf ii).toNat)
      case atStart => exact ⟨0, Nat.zero_le _, rfl, HB, NV⟩
      case round =>
        clear NV HB c0 HC HC1 
        obtain ⟨j, hj, rfl, hR, NR⟩ := hrel
        by_cases hlt : j < n
        · have l9 : (j : Int) < (n : Int) := by omega
          obtain ⟨b', off', eb, hb2, hc2⟩ := NR.out.at (by omega)
          simp only [Option.some.injEq, Addr.mk.injEq] at eb
          obtain ⟨rfl, rfl, _⟩ := eb
          obtain ⟨q0, q1⟩ := hc2 j hlt
          clear hc2
          have HD := Lib.hid (C4.out j hlt)
          generalize gX l j = x9 at *
          generalize gR l j = r9 at *
          have T1 := Lib.hid (Two.new wr (.int .i64 x9) (.int .i64 r9) 42)
          have XR : Hid (Below w.heap.size w (wr.alloc (.cells #[.int .i64 x9, .int .i64 r9] 42))) := Lib.hid (bel_trans hR.out (bel_alloc (Below.refl _ _)))
          replace NR := Lib.hid (NR.out.alloc (.cells #[.int .i64 x9, .int .i64 r9] 42))
          obtain ⟨t0, t1, _, _, _⟩ := T1.out
          go_wp2_with fail
          refine (HD.out _ NR.out).mono ?_
          rintro e w71 ⟨rfl, g1⟩
          replace T1 := Lib.hid (T1.out.below g1)
          replace XR := Lib.hid (bel_trans XR.out g1)
          replace NR := Lib.hid (NR.out.below g1)
          obtain ⟨t0, t1, _, _, _⟩ := T1.out
          clear g1
          go_wp2
          go_roundw
          case rel => exact ⟨j + 1, by omega, by go_num, XR, NR⟩
          case measure => simp [intOf]; omega
        · obtain rfl : j = n := by omega
          go_wp2
          go_returns
          exact ⟨rfl, hR.out⟩
theorem walk (v : Value) (l : List (Int × Int)) (p q : Int) (w : World) (hv : Pts w v l) (_ : -9223372036854775808 ≤ p ∧ p ≤ 9223372036854775807) (_ : -9223372036854775808 ≤ q ∧ q ≤ 9223372036854775807) :
    Calls Try.prog 6 #[v, .int .i64 p, .int .i64 q] w fun e w' => e = .returned (.bool true) ∧ Below w.heap.size w w' := by
  have hv2 := Lib.hid hv
  obtain ⟨a, cap, rfl, _, _⟩ := hv.shape
  cases h : fwB l.length with
  | false => exact long a l.length cap p q l w hv2 h
  | true =>
    have C1 := fun W h => itDen_any (.slice a l.length cap) l p W h
    have C2 := fun W h => itDen_any (.slice a l.length cap) l q W h
    by_cases e1 : denE l p = 0
    · rw [denV_ok e1, e1] at C1
      by_cases e2 : denE l q = 0
      · rw [denV_ok e2, e2] at C2
        obtain ⟨hD, p0, p1⟩ := denE_zero.1 e1
        obtain ⟨_, q0, q1⟩ := denE_zero.1 e2
        have n1 := hD.n1
        have C3 := fun W h => dnFn_any (.slice a l.length cap) l p W h
        have e3 : fnE l p = 0 := by unfold fnE; rw [if_neg (by have := dnE_zero.2 hD; omega), if_pos ⟨p0, p1⟩]
        obtain ⟨k, ek, kl, k1, k2⟩ := rc_place hD p0 p1
        rw [show fnI l p = (k : Int) by unfold fnI; rw [if_pos e3]; exact ek, e3] at C3
        have C4 : ∀ j, j < l.length → ∀ W, Pts W (.slice a l.length cap) l → Calls Try.prog 17 #[.slice a l.length cap, .int .i64 (gX l j)] W fun e w' => e = .returned (.tuple #[.int .i64 (gR l j), .int .i64 0]) ∧ Below W.heap.size W w' := fun j hj W h => by
          have := itDen_any (.slice a l.length cap) l (gX l j) W h
          have bj := hD.b j hj
          have e4 : denE l (gX l j) = 0 := denE_zero.2 ⟨hD, bj.1, bj.2.1⟩
          rwa [denV_ok e4, atD_row hD hj, e4] at this
        have hx : atD l p ≤ gR l k ∧ (k + 1 < l.length → ¬ atD l p < gR l (k + 1)) := by
          by_cases ne : gX l k = p
          · have := atD_row hD kl
            rw [ne] at this
            refine ⟨by omega, fun g => ?_⟩
            have := hD.ge (show k ≤ k + 1 by omega) g
            omega
          · obtain ⟨k3, k4⟩ := k2 ne
            rw [atD_eq hD k3 k1 k4]
            have := btD_bd (hD.lt (show k < k + 1 by omega) k3) k1 k4 (hD.ge (show k ≤ k + 1 by omega) k3)
            exact ⟨this.2, fun _ => by omega⟩
        have hpq : (decide (p ≤ q) = true ∧ decide (atD l p < atD l q) = false ∧ decide (q ≤ p) = true ∧ decide (atD l q < atD l p) = false) ∨ (decide (p ≤ q) = true ∧ decide (atD l p < atD l q) = false ∧ decide (q ≤ p) = false) ∨ (decide (p ≤ q) = false ∧ decide (q ≤ p) = true ∧ decide (atD l q < atD l p) = false) := by
          simp only [decide_eq_true_eq, decide_eq_false_iff_not]
          rcases Int.lt_trichotomy p q with g | g | g
          · have := atD_anti hD p0 q1 (Int.le_of_lt g); omega
          · subst g; omega
          · have := atD_anti hD q0 p1 (Int.le_of_lt g); omega
        by_cases hk1 : k + 1 < l.length
        · exact goodA a l.length cap p q _ _ k l w hv2 h n1 kl hk1 hx.1 hx.2 hpq (Lib.hid C1) (Lib.hid C2) (Lib.hid C3) (Lib.hid C4)
        · exact goodB a l.length cap p q _ _ k l w hv2 h n1 kl hk1 hx.1 hx.2 hpq (Lib.hid C1) (Lib.hid C2) (Lib.hid C3) (Lib.hid C4)
      · rw [denV_no e2] at C2
        exact bad3 a l.length cap p q _ 0 0 _ l w hv2 h (by simpa using e2) (by simpa using e2) (Lib.hid C1) (Lib.hid C2)
    · rw [denV_no e1] at C1
      by_cases e2 : denE l q = 0
      · rw [e2] at C2
        exact bad1 a l.length cap p q 0 _ _ 0 l w hv2 h (by simpa using e1) (by simpa using e1) (Lib.hid C1) (Lib.hid C2)
      · rw [denV_no e2] at C2
        exact bad2 a l.length cap p q 0 0 _ _ l w hv2 h (by simpa using e1) (by simpa using e1) (by simpa using e2) (Lib.hid C1) (Lib.hid C2)

set_option maxRecDepth 100000 in
theorem lifted (os : Os) (started : os.Started) (H : Type) (enc : TypeId × Value → H) :
    ReturnsInHanded {} Try.checked os 6 .any (Rows.interpolateFallsSpec.pre6 enc Try.prog Try.f6 Rows.interpolateFallsRow.domain false) (Rows.interpolateFallsSpec.post enc Try.prog Try.f6 false true false false) := by
  refine returnsInHanded_of_change (C := Try.checked) own started (by kernel_rfl) Try.func6
    (ChangeSpec.witness6 (enc := enc) (C := Try.checked) false ⟨#[], #[.slice none 0 0, .int .i64 0, .int .i64 0], []⟩ 8 (by kernel_rfl) (by kernel_rfl) (by kernel_rfl) (by kernel_rfl)) ?_
  intro W base args ds gs before hval0 hW hcnd _
  have hval : ∀ (j : Nat) t v, Try.f6.params[j]? = some t → args[j]? = some v → Value.okWide Try.prog W .any base t v := hval0
  clear hval0
  have hW' := hW
  obtain ⟨p, q, hA0, hV, rfl, hfz, hnd⟩ := hW
  have hA : DataW.TrodAll enc Try.prog W 0 (fun _ => true) true Try.f6.params.toList args.toList ds p := hA0
  rw [Try.params6] at hA hval
  obtain ⟨v0, vs0, d0, ds0, p0, q0, hargs, rfl, rfl, h0, r0⟩ := trodAll_cons hA
  obtain ⟨v1, vs1, d1, ds1, p1, q1, rfl, rfl, rfl, h1, r1⟩ := trodAll_cons r0
  obtain ⟨v2, vs2, d2, ds2, p2, q2, rfl, rfl, rfl, h2, r2⟩ := trodAll_cons r1
  obtain ⟨rfl, rfl, rfl⟩ := trodAll_nil r2
  obtain rfl : args = #[v0, v1, v2] := by cases args; simp_all
  obtain ⟨rfl, rfl⟩ := trodVars_none hV
  have k0 := h0
  have lt0 : ∀ x ∈ p0, x.block < W.heap.size := by obtain ⟨m, hm⟩ := k0; exact DataW.trod_lt m _ _ _ hm
  have k1 := h1
  have lt1 : ∀ x ∈ p1, x.block < W.heap.size := by obtain ⟨m, hm⟩ := k1; exact DataW.trod_lt m _ _ _ hm
  have k2 := h2
  have lt2 : ∀ x ∈ p2, x.block < W.heap.size := by obtain ⟨m, hm⟩ := k2; exact DataW.trod_lt m _ _ _ hm
  obtain ⟨z0, w0⟩ := open_pts (hval 0 22 v0 rfl rfl) h0
  obtain ⟨a1, rfl, rfl, rfl, w1⟩ := open_int Try.underlying3 (hval 1 3 v1 rfl rfl) h1
  obtain ⟨a2, rfl, rfl, rfl, w2⟩ := open_int Try.underlying3 (hval 2 3 v2 rfl rfl) h2
  clear hA0
  refine (walk v0 z0 a1 a2 W w0 (wf_bd w1) (wf_bd w2)).mono fun e W' ⟨he, bel⟩ => ?_
  subst he
  exact ⟨_, rfl, _, _, _, [], _, [], hW', trodAll_mk1 (shut_bool Try.underlying4 _), (trodAll_cons_mk (Below.trod laidOut (by kernel_rfl) (of_decide_eq_true (by kernel_rfl)) k0 bel lt0) (trodAll_cons_mk (Below.trod laidOut (by kernel_rfl) (of_decide_eq_true (by kernel_rfl)) k1 bel lt1) (trodAll_cons_mk (Below.trod laidOut (by kernel_rfl) (of_decide_eq_true (by kernel_rfl)) k2 bel lt2) trodAll_mk0))), rfl, bel.frame _, fun h => by cases h⟩

theorem over : Rows.interpolateFallsRow.holds Try.pinned (OpenSpec.ofChange Rows.interpolateFallsSpec) :=
  OpenClaim.holds_of_wide 6 Try.f6 rfl rfl rfl rfl rfl rfl rfl ⟨rfl, rfl, rfl, rfl, rfl⟩ rfl rfl rfl rfl rfl (by kernel_rfl) Try.func6 (by kernel_rfl)
    (of_decide_eq_true (by kernel_rfl)) (by unfold Func.isWrapper; first | (rw [if_pos (by decide +kernel)]; kernel_rfl) | (rw [if_neg (by decide +kernel)]; exact ⟨rfl, rfl⟩))
    (fun os started H enc _ => lifted os started H enc)

theorem proved : Rows.InterpolateFallsSaid := over
#print axioms proved
end Go.Proofs.Ytadkhhkoankhnaa.interpolateFalls

