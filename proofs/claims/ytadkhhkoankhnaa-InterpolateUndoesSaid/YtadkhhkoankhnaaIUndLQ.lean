/-
  The statement InterpolateUndoes of spile/spilelaw18 holds: for every input the call returns true, and each argument reads afterwards as it read before.
-/
import Derived.Test.YtadkhhkoankhnaaM2
import Derived.Below
import Derived.Carry

set_option linter.unusedVariables false
set_option linter.unusedSimpArgs false

namespace Go.Proofs.Ytadkhhkoankhnaa.interpolateUndoes
open Go.ChangeShapes Go.WideShapes Go.ChangeAt Go.RowKit
open Go.ChangeMaps (open_string shut_string)
set_option linter.unusedVariables false

/-- what stands -/
def US (a : Option Addr) (n cap : Nat) (l : List (Int × Int)) (w W : World) : Prop := Below w.heap.size w W ∧ Boxed W w.heap.size 22 (.slice a n cap) ∧ Pts W (.slice a n cap) l
theorem US.below {a : Option Addr} {n cap : Nat} {l : List (Int × Int)} {w W W' : World} (h : US a n cap l w W) (hb : Below W.heap.size W W') : US a n cap l w W' := ⟨bel_trans h.1 hb, bxd_below h.2.1 hb, h.2.2.below hb⟩
theorem US.alloc {a : Option Addr} {n cap : Nat} {l : List (Int × Int)} {w W : World} (h : US a n cap l w W) (o : Obj) : US a n cap l w (W.alloc o) := h.below (bel_alloc (Below.refl _ _))
theorem US.init {a : Option Addr} {n cap : Nat} {l : List (Int × Int)} {w : World} (h : Pts w (.slice a n cap) l) : US a n cap l w (w.alloc (.cells #[.slice a n cap] 22)) := ⟨bel_alloc (Below.refl _ _), Boxed.new w _ _, h.alloc _⟩
set_option maxHeartbeats 8000000 in
theorem clo (i V E : Int) (q : Nat) (a : Option Addr) (n cap : Nat) (l : List (Int × Int)) (w : World) (c0 : w.cell? ⟨q, 0, none⟩ = some (.slice a n cap))
    (H : Hid (Calls Try.prog 17 #[.slice a n cap, .int .i64 i] w fun e w' => e = .returned (.tuple #[.int .i64 V, .int .i64 E]) ∧ Below w.heap.size w w')) :
    Calls Try.prog 31 #[.int .i64 i, .pointer (some ⟨q, 0, none⟩)] w fun e w' => e = .returned (.int .i64 V) ∧ Below w.heap.size w w' := by
  go_enter Try.func31, Try.ntmps31
  go_wp2_with fail
  refine H.out.mono ?_
  rintro e w1 ⟨rfl, h1⟩
  go_wp2
  go_returns
  exact ⟨rfl, h1⟩
set_option maxHeartbeats 8000000 in
set_option maxRecDepth 100000 in
theorem long (a : Option Addr) (n cap : Nat) (wd st : Int) (l : List (Int × Int)) (w : World) (NV : Hid (Pts w (.slice a n cap) l)) (hf : fwB l.length = false) :
    Calls Try.prog 7 #[.slice a n cap, .int .i64 wd, .int .i64 st] w fun e w' => e = .returned (.bool true) ∧ Below w.heap.size w w' := by
  have HA := Lib.hid (fun W => awakeI_any W)
  have FW := Lib.hid (fun v W h => few_any v l W h)
  rw [hf] at FW
  have hmf : ∀ (fn : Fn) (first cap : Array Value) (w : World), (Instr.makeFunc fn first cap).run Try.prog w = .ok (.func fn first cap) w := fun _ _ _ _ => rfl
  have eg : ∀ args w, (callFunc 31 args).run Try.prog w = .ok (.enter 31 args) w := enters_of Try.func31 (by kernel_rfl) rfl
  have S := Lib.hid (US.init NV.out)
  have c0 := S.out.2.1.cell
  clear NV
  go_enter Try.func7, Try.ntmps7
  go_wp2_with fail
  refine (HA.out _).mono ?_
  rintro e w1 ⟨rfl, h1⟩
  replace S := Lib.hid (S.out.below h1)
  clear h1 c0
  have c0 := S.out.2.1.cell
  go_wp2_with fail
  refine (FW.out _ _ S.out.2.2).mono ?_
  rintro e w90 ⟨rfl, hw⟩
  subst hw
  go_wp2
  go_returns
  exact ⟨rfl, S.out.1⟩
set_option maxHeartbeats 8000000 in
set_option maxRecDepth 100000 in
theorem noneA (a : Option Addr) (n cap : Nat) (wd st E4 : Int) (E1 V1 : Int) (l : List (Int × Int)) (w : World) (NV : Hid (Pts w (.slice a n cap) l)) (hf : fwB l.length = true) (n1 : (E1 == 0) = false) (n4 : (E4 != 0) = true)
    (C1 : Hid (∀ W, Pts W (.slice a n cap) l → Calls Try.prog 17 #[.slice a n cap, .int .i64 st] W fun e w' => e = .returned (.tuple #[.int .i64 V1, .int .i64 E1]) ∧ Below W.heap.size W w'))
    (C4 : Hid (∀ W, Pts W (.slice a n cap) l → Calls Try.prog 19 #[.slice a n cap, .int .i64 wd] W fun e w' => e = .returned (.tuple #[.int .i64 0, .int .i64 E4]) ∧ Below W.heap.size W w')) :
    Calls Try.prog 7 #[.slice a n cap, .int .i64 wd, .int .i64 st] w fun e w' => e = .returned (.bool true) ∧ Below w.heap.size w w' := by
  have HA := Lib.hid (fun W => awakeI_any W)
  have FW := Lib.hid (fun v W h => few_any v l W h)
  rw [hf] at FW
  have hmf : ∀ (fn : Fn) (first cap : Array Value) (w : World), (Instr.makeFunc fn first cap).run Try.prog w = .ok (.func fn first cap) w := fun _ _ _ _ => rfl
  have eg : ∀ args w, (callFunc 31 args).run Try.prog w = .ok (.enter 31 args) w := enters_of Try.func31 (by kernel_rfl) rfl
  have S := Lib.hid (US.init NV.out)
  have c0 := S.out.2.1.cell
  clear NV
  go_enter Try.func7, Try.ntmps7
  go_wp2_with fail
  refine (HA.out _).mono ?_
  rintro e w1 ⟨rfl, h1⟩
  replace S := Lib.hid (S.out.below h1)
  clear h1 c0
  have c0 := S.out.2.1.cell
  go_wp2_with fail
  refine (FW.out _ _ S.out.2.2).mono ?_
  rintro e w90 ⟨rfl, hw⟩
  subst hw
  go_wp2_with fail
  refine (C1.out _ S.out.2.2).mono ?_
  rintro e w2 ⟨rfl, h1⟩
  replace S := Lib.hid (S.out.below h1)
  clear h1 c0
  have c0 := S.out.2.1.cell
  go_wp2_with fail
  refine (C4.out _ S.out.2.2).mono ?_
  rintro e w5 ⟨rfl, h1⟩
  replace S := Lib.hid (S.out.below h1)
  clear h1 c0
  have c0 := S.out.2.1.cell
  go_wp2
  go_returns
  exact ⟨rfl, S.out.1⟩
set_option maxHeartbeats 8000000 in
set_option maxRecDepth 100000 in
theorem noneB (a : Option Addr) (n cap : Nat) (wd st E4 : Int) (V1 lo1 hi1 : Int) (l : List (Int × Int)) (w : World) (NV : Hid (Pts w (.slice a n cap) l)) (hf : fwB l.length = true) (m1 : (hi1 != hi1) = false) (m2 : decide (st < lo1) = false) (m3 : decide (hi1 < st) = false) (n4 : (E4 != 0) = true)
    (C1 : Hid (∀ W, Pts W (.slice a n cap) l → Calls Try.prog 17 #[.slice a n cap, .int .i64 st] W fun e w' => e = .returned (.tuple #[.int .i64 V1, .int .i64 0]) ∧ Below W.heap.size W w'))
    (C2 : Hid (∀ W, Pts W (.slice a n cap) l → Calls Try.prog 19 #[.slice a n cap, .int .i64 V1] W fun e w' => e = .returned (.tuple #[.int .i64 hi1, .int .i64 0]) ∧ Below W.heap.size W w'))
    (C3 : Hid (∀ W, Pts W (.slice a n cap) l → Calls Try.prog 21 #[.slice a n cap, .int .i64 V1] W fun e w' => e = .returned (.tuple #[.agg #[.int .i64 lo1, .int .i64 hi1], .int .i64 0]) ∧ Below W.heap.size W w'))
    (C4 : Hid (∀ W, Pts W (.slice a n cap) l → Calls Try.prog 19 #[.slice a n cap, .int .i64 wd] W fun e w' => e = .returned (.tuple #[.int .i64 0, .int .i64 E4]) ∧ Below W.heap.size W w')) :
    Calls Try.prog 7 #[.slice a n cap, .int .i64 wd, .int .i64 st] w fun e w' => e = .returned (.bool true) ∧ Below w.heap.size w w' := by
  have HA := Lib.hid (fun W => awakeI_any W)
  have FW := Lib.hid (fun v W h => few_any v l W h)
  rw [hf] at FW
  have hmf : ∀ (fn : Fn) (first cap : Array Value) (w : World), (Instr.makeFunc fn first cap).run Try.prog w = .ok (.func fn first cap) w := fun _ _ _ _ => rfl
  have eg : ∀ args w, (callFunc 31 args).run Try.prog w = .ok (.enter 31 args) w := enters_of Try.func31 (by kernel_rfl) rfl
  have S := Lib.hid (US.init NV.out)
  have c0 := S.out.2.1.cell
  clear NV
  go_enter Try.func7, Try.ntmps7
  go_wp2_with fail
  refine (HA.out _).mono ?_
  rintro e w1 ⟨rfl, h1⟩
  replace S := Lib.hid (S.out.below h1)
  clear h1 c0
  have c0 := S.out.2.1.cell
  go_wp2_with fail
  refine (FW.out _ _ S.out.2.2).mono ?_
  rintro e w90 ⟨rfl, hw⟩
  subst hw
  go_wp2_with fail
  refine (C1.out _ S.out.2.2).mono ?_
  rintro e w2 ⟨rfl, h1⟩
  replace S := Lib.hid (S.out.below h1)
  clear h1 c0
  have c0 := S.out.2.1.cell
  go_wp2_with fail
  refine (C2.out _ S.out.2.2).mono ?_
  rintro e w3 ⟨rfl, h1⟩
  replace S := Lib.hid (S.out.below h1)
  clear h1 c0
  have c0 := S.out.2.1.cell
  go_wp2_with fail
  refine (C3.out _ S.out.2.2).mono ?_
  rintro e w4 ⟨rfl, h1⟩
  replace S := Lib.hid ((S.out.below h1).alloc (.cells #[.int .i64 lo1, .int .i64 hi1] 29))
  have T1 := Lib.hid (Two.new w4 (.int .i64 lo1) (.int .i64 hi1) 29)
  clear h1 c0
  have c0 := S.out.2.1.cell
  obtain ⟨t0, t1, _, _, _⟩ := T1.out
  clear T1
  go_wp2_with fail
  refine (C4.out _ S.out.2.2).mono ?_
  rintro e w5 ⟨rfl, h1⟩
  replace S := Lib.hid (S.out.below h1)
  clear h1 c0
  have c0 := S.out.2.1.cell
  go_wp2
  go_returns
  exact ⟨rfl, S.out.1⟩
set_option maxHeartbeats 16000000 in
set_option maxRecDepth 100000 in
theorem goAS7 (a : Option Addr) (n cap : Nat) (wd st : Int) (E1 V1 : Int) (X : Int) (s Y : Int) (l : List (Int × Int)) (w : World) (NV : Hid (Pts w (.slice a n cap) l)) (hf : fwB l.length = true) (n1 : (E1 == 0) = false) (z1 : decide ((s : Int) < 0) = false) (z2 : decide ((10000 : Int) < s) = false) (z3 : decide (X < wd) = false) (z4 : decide ((s : Int) < 10000) = true) (z5 : IntKind.i64.wrap (s + 1) = s + 1) (z6 : decide (wd ≤ Y) = false) (z7 : (X != wd) = true)
    (C1 : Hid (∀ W, Pts W (.slice a n cap) l → Calls Try.prog 17 #[.slice a n cap, .int .i64 st] W fun e w' => e = .returned (.tuple #[.int .i64 V1, .int .i64 E1]) ∧ Below W.heap.size W w'))
    (C5 : Hid (∀ W, Pts W (.slice a n cap) l → Calls Try.prog 17 #[.slice a n cap, .int .i64 s] W fun e w' => e = .returned (.tuple #[.int .i64 X, .int .i64 0]) ∧ Below W.heap.size W w'))
    (C6 : Hid (∀ W, Pts W (.slice a n cap) l → Calls Try.prog 17 #[.slice a n cap, .int .i64 (s + 1)] W fun e w' => e = .returned (.tuple #[.int .i64 Y, .int .i64 0]) ∧ Below W.heap.size W w'))
    (C9 : Hid (∀ W, Pts W (.slice a n cap) l → Calls Try.prog 21 #[.slice a n cap, .int .i64 wd] W fun e w' => e = .returned (.tuple #[.agg #[.int .i64 0, .int .i64 0], .int .i64 7]) ∧ Below W.heap.size W w'))
    (C4 : Hid (∀ W, Pts W (.slice a n cap) l → Calls Try.prog 19 #[.slice a n cap, .int .i64 wd] W fun e w' => e = .returned (.tuple #[.int .i64 s, .int .i64 0]) ∧ Below W.heap.size W w')) :
    Calls Try.prog 7 #[.slice a n cap, .int .i64 wd, .int .i64 st] w fun e w' => e = .returned (.bool true) ∧ Below w.heap.size w w' := by
  have HA := Lib.hid (fun W => awakeI_any W)
  have FW := Lib.hid (fun v W h => few_any v l W h)
  rw [hf] at FW
  have hmf : ∀ (fn : Fn) (first cap : Array Value) (w : World), (Instr.makeFunc fn first cap).run Try.prog w = .ok (.func fn first cap) w := fun _ _ _ _ => rfl
  have eg : ∀ args w, (callFunc 31 args).run Try.prog w = .ok (.enter 31 args) w := enters_of Try.func31 (by kernel_rfl) rfl
  have S := Lib.hid (US.init NV.out)
  have c0 := S.out.2.1.cell
  clear NV
  go_enter Try.func7, Try.ntmps7
  go_wp2_with fail
  refine (HA.out _).mono ?_
  rintro e w1 ⟨rfl, h1⟩
  replace S := Lib.hid (S.out.below h1)
  clear h1 c0
  have c0 := S.out.2.1.cell
  go_wp2_with fail
  refine (FW.out _ _ S.out.2.2).mono ?_
  rintro e w90 ⟨rfl, hw⟩
  subst hw
  go_wp2_with fail
  refine (C1.out _ S.out.2.2).mono ?_
  rintro e w2 ⟨rfl, h1⟩
  replace S := Lib.hid (S.out.below h1)
  clear h1 c0
  have c0 := S.out.2.1.cell
  go_wp2_with fail
  refine (C4.out _ S.out.2.2).mono ?_
  rintro e w5 ⟨rfl, h1⟩
  replace S := Lib.hid (S.out.below h1)
  clear h1 c0
  have c0 := S.out.2.1.cell
  go_wp2_with fail
  refine (clo _ _ _ _ _ _ _ l _ c0 (Lib.hid (C5.out _ S.out.2.2))).mono ?_
  rintro e w60 ⟨rfl, h1⟩
  replace S := Lib.hid (S.out.below h1)
  clear h1 c0
  have c0 := S.out.2.1.cell
  go_wp2_with fail
  refine (clo _ _ _ _ _ _ _ l _ c0 (Lib.hid (C6.out _ S.out.2.2))).mono ?_
  rintro e w61 ⟨rfl, h1⟩
  replace S := Lib.hid (S.out.below h1)
  clear h1 c0
  have c0 := S.out.2.1.cell
  go_wp2_with fail
  refine (C9.out _ S.out.2.2).mono ?_
  rintro e w9 ⟨rfl, h1⟩
  replace S := Lib.hid ((S.out.below h1).alloc (.cells #[.int .i64 0, .int .i64 0] 29))
  have T2 := Lib.hid (Two.new w9 (.int .i64 0) (.int .i64 0) 29)
  clear h1 c0
  have c0 := S.out.2.1.cell
  obtain ⟨t0, t1, _, _, _⟩ := T2.out
  go_wp2_with fail
  refine (clo _ _ _ _ _ _ _ l _ c0 (Lib.hid (C5.out _ S.out.2.2))).mono ?_
  rintro e w71 ⟨rfl, h1⟩
  replace S := Lib.hid (S.out.below h1)
  clear h1 c0
  have c0 := S.out.2.1.cell
  go_wp2
  go_returns
  exact ⟨rfl, S.out.1⟩
set_option maxHeartbeats 16000000 in
set_option maxRecDepth 100000 in
theorem goASL (a : Option Addr) (n cap : Nat) (wd st : Int) (E1 V1 : Int) (X : Int) (s Y : Int) (l : List (Int × Int)) (w : World) (NV : Hid (Pts w (.slice a n cap) l)) (hf : fwB l.length = true) (n1 : (E1 == 0) = false) (z1 : decide ((s : Int) < 0) = false) (z2 : decide ((10000 : Int) < s) = false) (z3 : decide (X < wd) = false) (z4 : decide ((s : Int) < 10000) = true) (z5 : IntKind.i64.wrap (s + 1) = s + 1) (z6 : decide (wd ≤ Y) = false) (z8 : ((s : Int) == s) = true) (z9 : (wd == wd) = true) (z10 : ((0 : Int) == 0) = true)
    (C1 : Hid (∀ W, Pts W (.slice a n cap) l → Calls Try.prog 17 #[.slice a n cap, .int .i64 st] W fun e w' => e = .returned (.tuple #[.int .i64 V1, .int .i64 E1]) ∧ Below W.heap.size W w'))
    (C5 : Hid (∀ W, Pts W (.slice a n cap) l → Calls Try.prog 17 #[.slice a n cap, .int .i64 s] W fun e w' => e = .returned (.tuple #[.int .i64 X, .int .i64 0]) ∧ Below W.heap.size W w'))
    (C6 : Hid (∀ W, Pts W (.slice a n cap) l → Calls Try.prog 17 #[.slice a n cap, .int .i64 (s + 1)] W fun e w' => e = .returned (.tuple #[.int .i64 Y, .int .i64 0]) ∧ Below W.heap.size W w'))
    (C7 : Hid (∀ W, Pts W (.slice a n cap) l → Calls Try.prog 17 #[.slice a n cap, .int .i64 0] W fun e w' => e = .returned (.tuple #[.int .i64 wd, .int .i64 0]) ∧ Below W.heap.size W w'))
    (C9 : Hid (∀ W, Pts W (.slice a n cap) l → Calls Try.prog 21 #[.slice a n cap, .int .i64 wd] W fun e w' => e = .returned (.tuple #[.agg #[.int .i64 0, .int .i64 s], .int .i64 0]) ∧ Below W.heap.size W w'))
    (C4 : Hid (∀ W, Pts W (.slice a n cap) l → Calls Try.prog 19 #[.slice a n cap, .int .i64 wd] W fun e w' => e = .returned (.tuple #[.int .i64 s, .int .i64 0]) ∧ Below W.heap.size W w')) :
    Calls Try.prog 7 #[.slice a n cap, .int .i64 wd, .int .i64 st] w fun e w' => e = .returned (.bool true) ∧ Below w.heap.size w w' := by
  have HA := Lib.hid (fun W => awakeI_any W)
  have FW := Lib.hid (fun v W h => few_any v l W h)
  rw [hf] at FW
  have hmf : ∀ (fn : Fn) (first cap : Array Value) (w : World), (Instr.makeFunc fn first cap).run Try.prog w = .ok (.func fn first cap) w := fun _ _ _ _ => rfl
  have eg : ∀ args w, (callFunc 31 args).run Try.prog w = .ok (.enter 31 args) w := enters_of Try.func31 (by kernel_rfl) rfl
  have S := Lib.hid (US.init NV.out)
  have c0 := S.out.2.1.cell
  clear NV
  go_enter Try.func7, Try.ntmps7
  go_wp2_with fail
  refine (HA.out _).mono ?_
  rintro e w1 ⟨rfl, h1⟩
  replace S := Lib.hid (S.out.below h1)
  clear h1 c0
  have c0 := S.out.2.1.cell
  go_wp2_with fail
  refine (FW.out _ _ S.out.2.2).mono ?_
  rintro e w90 ⟨rfl, hw⟩
  subst hw
  go_wp2_with fail
  refine (C1.out _ S.out.2.2).mono ?_
  rintro e w2 ⟨rfl, h1⟩
  replace S := Lib.hid (S.out.below h1)
  clear h1 c0
  have c0 := S.out.2.1.cell
  go_wp2_with fail
  refine (C4.out _ S.out.2.2).mono ?_
  rintro e w5 ⟨rfl, h1⟩
  replace S := Lib.hid (S.out.below h1)
  clear h1 c0
  have c0 := S.out.2.1.cell
  go_wp2_with fail
  refine (clo _ _ _ _ _ _ _ l _ c0 (Lib.hid (C5.out _ S.out.2.2))).mono ?_
  rintro e w60 ⟨rfl, h1⟩
  replace S := Lib.hid (S.out.below h1)
  clear h1 c0
  have c0 := S.out.2.1.cell
  go_wp2_with fail
  refine (clo _ _ _ _ _ _ _ l _ c0 (Lib.hid (C6.out _ S.out.2.2))).mono ?_
  rintro e w61 ⟨rfl, h1⟩
  replace S := Lib.hid (S.out.below h1)
  clear h1 c0
  have c0 := S.out.2.1.cell
  go_wp2_with fail
  refine (C9.out _ S.out.2.2).mono ?_
  rintro e w9 ⟨rfl, h1⟩
  replace S := Lib.hid ((S.out.below h1).alloc (.cells #[.int .i64 0, .int .i64 s] 29))
  have T2 := Lib.hid (Two.new w9 (.int .i64 0) (.int .i64 s) 29)
  clear h1 c0
  have c0 := S.out.2.1.cell
  obtain ⟨t0, t1, _, _, _⟩ := T2.out
  go_wp2_with fail
  refine (clo _ _ _ _ _ _ _ l _ c0 (Lib.hid (C7.out _ S.out.2.2))).mono ?_
  rintro e w72 ⟨rfl, h1⟩
  replace S := Lib.hid (S.out.below h1)
  replace T2 := Lib.hid (T2.out.below h1)
  clear h1 c0
  have c0 := S.out.2.1.cell
  clear t0 t1
  obtain ⟨t0, t1, _, _, _⟩ := T2.out
  go_wp2
  go_returns
  exact ⟨rfl, S.out.1⟩
set_option maxHeartbeats 16000000 in
set_option maxRecDepth 100000 in
theorem goASG (a : Option Addr) (n cap : Nat) (wd st : Int) (E1 V1 : Int) (X : Int) (s Y : Int) (lo Z : Int) (l : List (Int × Int)) (w : World) (NV : Hid (Pts w (.slice a n cap) l)) (hf : fwB l.length = true) (n1 : (E1 == 0) = false) (z1 : decide ((s : Int) < 0) = false) (z2 : decide ((10000 : Int) < s) = false) (z3 : decide (X < wd) = false) (z4 : decide ((s : Int) < 10000) = true) (z5 : IntKind.i64.wrap (s + 1) = s + 1) (z6 : decide (wd ≤ Y) = false) (z8 : ((s : Int) == s) = true) (z9 : (wd == wd) = true) (z10 : (lo == 0) = false) (z11 : IntKind.i64.wrap (lo - 1) = lo - 1) (z12 : decide (wd < Z) = true)
    (C1 : Hid (∀ W, Pts W (.slice a n cap) l → Calls Try.prog 17 #[.slice a n cap, .int .i64 st] W fun e w' => e = .returned (.tuple #[.int .i64 V1, .int .i64 E1]) ∧ Below W.heap.size W w'))
    (C5 : Hid (∀ W, Pts W (.slice a n cap) l → Calls Try.prog 17 #[.slice a n cap, .int .i64 s] W fun e w' => e = .returned (.tuple #[.int .i64 X, .int .i64 0]) ∧ Below W.heap.size W w'))
    (C6 : Hid (∀ W, Pts W (.slice a n cap) l → Calls Try.prog 17 #[.slice a n cap, .int .i64 (s + 1)] W fun e w' => e = .returned (.tuple #[.int .i64 Y, .int .i64 0]) ∧ Below W.heap.size W w'))
    (C7 : Hid (∀ W, Pts W (.slice a n cap) l → Calls Try.prog 17 #[.slice a n cap, .int .i64 lo] W fun e w' => e = .returned (.tuple #[.int .i64 wd, .int .i64 0]) ∧ Below W.heap.size W w'))
    (C8 : Hid (∀ W, Pts W (.slice a n cap) l → Calls Try.prog 17 #[.slice a n cap, .int .i64 (lo - 1)] W fun e w' => e = .returned (.tuple #[.int .i64 Z, .int .i64 0]) ∧ Below W.heap.size W w'))
    (C9 : Hid (∀ W, Pts W (.slice a n cap) l → Calls Try.prog 21 #[.slice a n cap, .int .i64 wd] W fun e w' => e = .returned (.tuple #[.agg #[.int .i64 lo, .int .i64 s], .int .i64 0]) ∧ Below W.heap.size W w'))
    (C4 : Hid (∀ W, Pts W (.slice a n cap) l → Calls Try.prog 19 #[.slice a n cap, .int .i64 wd] W fun e w' => e = .returned (.tuple #[.int .i64 s, .int .i64 0]) ∧ Below W.heap.size W w')) :
    Calls Try.prog 7 #[.slice a n cap, .int .i64 wd, .int .i64 st] w fun e w' => e = .returned (.bool true) ∧ Below w.heap.size w w' := by
  have HA := Lib.hid (fun W => awakeI_any W)
  have FW := Lib.hid (fun v W h => few_any v l W h)
  rw [hf] at FW
  have hmf : ∀ (fn : Fn) (first cap : Array Value) (w : World), (Instr.makeFunc fn first cap).run Try.prog w = .ok (.func fn first cap) w := fun _ _ _ _ => rfl
  have eg : ∀ args w, (callFunc 31 args).run Try.prog w = .ok (.enter 31 args) w := enters_of Try.func31 (by kernel_rfl) rfl
  have S := Lib.hid (US.init NV.out)
  have c0 := S.out.2.1.cell
  clear NV
  go_enter Try.func7, Try.ntmps7
  go_wp2_with fail
  refine (HA.out _).mono ?_
  rintro e w1 ⟨rfl, h1⟩
  replace S := Lib.hid (S.out.below h1)
  clear h1 c0
  have c0 := S.out.2.1.cell
  go_wp2_with fail
  refine (FW.out _ _ S.out.2.2).mono ?_
  rintro e w90 ⟨rfl, hw⟩
  subst hw
  go_wp2_with fail
  refine (C1.out _ S.out.2.2).mono ?_
  rintro e w2 ⟨rfl, h1⟩
  replace S := Lib.hid (S.out.below h1)
  clear h1 c0
  have c0 := S.out.2.1.cell
  go_wp2_with fail
  refine (C4.out _ S.out.2.2).mono ?_
  rintro e w5 ⟨rfl, h1⟩
  replace S := Lib.hid (S.out.below h1)
  clear h1 c0
  have c0 := S.out.2.1.cell
  go_wp2_with fail
  refine (clo _ _ _ _ _ _ _ l _ c0 (Lib.hid (C5.out _ S.out.2.2))).mono ?_
  rintro e w60 ⟨rfl, h1⟩
  replace S := Lib.hid (S.out.below h1)
  clear h1 c0
  have c0 := S.out.2.1.cell
  go_wp2_with fail
  refine (clo _ _ _ _ _ _ _ l _ c0 (Lib.hid (C6.out _ S.out.2.2))).mono ?_
  rintro e w61 ⟨rfl, h1⟩
  replace S := Lib.hid (S.out.below h1)
  clear h1 c0
  have c0 := S.out.2.1.cell
  go_wp2_with fail
  refine (C9.out _ S.out.2.2).mono ?_
  rintro e w9 ⟨rfl, h1⟩
  replace S := Lib.hid ((S.out.below h1).alloc (.cells #[.int .i64 lo, .int .i64 s] 29))
  have T2 := Lib.hid (Two.new w9 (.int .i64 lo) (.int .i64 s) 29)
  clear h1 c0
  have c0 := S.out.2.1.cell
  obtain ⟨t0, t1, _, _, _⟩ := T2.out
  go_wp2_with fail
  refine (clo _ _ _ _ _ _ _ l _ c0 (Lib.hid (C7.out _ S.out.2.2))).mono ?_
  rintro e w72 ⟨rfl, h1⟩
  replace S := Lib.hid (S.out.below h1)
  replace T2 := Lib.hid (T2.out.below h1)
  clear h1 c0
  have c0 := S.out.2.1.cell
  clear t0 t1
  obtain ⟨t0, t1, _, _, _⟩ := T2.out
  go_wp2_with fail
  refine (clo _ _ _ _ _ _ _ l _ c0 (Lib.hid (C8.out _ S.out.2.2))).mono ?_
  rintro e w73 ⟨rfl, h1⟩
  replace S := Lib.hid (S.out.below h1)
  replace T2 := Lib.hid (T2.out.below h1)
  clear h1 c0
  have c0 := S.out.2.1.cell
  clear t0 t1
  obtain ⟨t0, t1, _, _, _⟩ := T2.out
  go_wp2
  go_returns
  exact ⟨rfl, S.out.1⟩
set_option maxHeartbeats 16000000 in
set_option maxRecDepth 100000 in
theorem goAT7 (a : Option Addr) (n cap : Nat) (wd st : Int) (E1 V1 : Int) (X : Int) (l : List (Int × Int)) (w : World) (NV : Hid (Pts w (.slice a n cap) l)) (hf : fwB l.length = true) (n1 : (E1 == 0) = false) (z1 : decide ((10000 : Int) < 0) = false) (z2 : decide ((10000 : Int) < 10000) = false) (z3 : decide (X < wd) = false) (z4 : decide ((10000 : Int) < 10000) = false) (z7 : (X != wd) = true)
    (C1 : Hid (∀ W, Pts W (.slice a n cap) l → Calls Try.prog 17 #[.slice a n cap, .int .i64 st] W fun e w' => e = .returned (.tuple #[.int .i64 V1, .int .i64 E1]) ∧ Below W.heap.size W w'))
    (C5 : Hid (∀ W, Pts W (.slice a n cap) l → Calls Try.prog 17 #[.slice a n cap, .int .i64 10000] W fun e w' => e = .returned (.tuple #[.int .i64 X, .int .i64 0]) ∧ Below W.heap.size W w'))
    (C9 : Hid (∀ W, Pts W (.slice a n cap) l → Calls Try.prog 21 #[.slice a n cap, .int .i64 wd] W fun e w' => e = .returned (.tuple #[.agg #[.int .i64 0, .int .i64 0], .int .i64 7]) ∧ Below W.heap.size W w'))
    (C4 : Hid (∀ W, Pts W (.slice a n cap) l → Calls Try.prog 19 #[.slice a n cap, .int .i64 wd] W fun e w' => e = .returned (.tuple #[.int .i64 10000, .int .i64 0]) ∧ Below W.heap.size W w')) :
    Calls Try.prog 7 #[.slice a n cap, .int .i64 wd, .int .i64 st] w fun e w' => e = .returned (.bool true) ∧ Below w.heap.size w w' := by
  have HA := Lib.hid (fun W => awakeI_any W)
  have FW := Lib.hid (fun v W h => few_any v l W h)
  rw [hf] at FW
  have hmf : ∀ (fn : Fn) (first cap : Array Value) (w : World), (Instr.makeFunc fn first cap).run Try.prog w = .ok (.func fn first cap) w := fun _ _ _ _ => rfl
  have eg : ∀ args w, (callFunc 31 args).run Try.prog w = .ok (.enter 31 args) w := enters_of Try.func31 (by kernel_rfl) rfl
  have S := Lib.hid (US.init NV.out)
  have c0 := S.out.2.1.cell
  clear NV
  go_enter Try.func7, Try.ntmps7
  go_wp2_with fail
  refine (HA.out _).mono ?_
  rintro e w1 ⟨rfl, h1⟩
  replace S := Lib.hid (S.out.below h1)
  clear h1 c0
  have c0 := S.out.2.1.cell
  go_wp2_with fail
  refine (FW.out _ _ S.out.2.2).mono ?_
  rintro e w90 ⟨rfl, hw⟩
  subst hw
  go_wp2_with fail
  refine (C1.out _ S.out.2.2).mono ?_
  rintro e w2 ⟨rfl, h1⟩
  replace S := Lib.hid (S.out.below h1)
  clear h1 c0
  have c0 := S.out.2.1.cell
  go_wp2_with fail
  refine (C4.out _ S.out.2.2).mono ?_
  rintro e w5 ⟨rfl, h1⟩
  replace S := Lib.hid (S.out.below h1)
  clear h1 c0
  have c0 := S.out.2.1.cell
  go_wp2_with fail
  refine (clo _ _ _ _ _ _ _ l _ c0 (Lib.hid (C5.out _ S.out.2.2))).mono ?_
  rintro e w60 ⟨rfl, h1⟩
  replace S := Lib.hid (S.out.below h1)
  clear h1 c0
  have c0 := S.out.2.1.cell
  go_wp2_with fail
  refine (C9.out _ S.out.2.2).mono ?_
  rintro e w9 ⟨rfl, h1⟩
  replace S := Lib.hid ((S.out.below h1).alloc (.cells #[.int .i64 0, .int .i64 0] 29))
  have T2 := Lib.hid (Two.new w9 (.int .i64 0) (.int .i64 0) 29)
  clear h1 c0
  have c0 := S.out.2.1.cell
  obtain ⟨t0, t1, _, _, _⟩ := T2.out
  go_wp2_with fail
  refine (clo _ _ _ _ _ _ _ l _ c0 (Lib.hid (C5.out _ S.out.2.2))).mono ?_
  rintro e w71 ⟨rfl, h1⟩
  replace S := Lib.hid (S.out.below h1)
  clear h1 c0
  have c0 := S.out.2.1.cell
  go_wp2
  go_returns
  exact ⟨rfl, S.out.1⟩
set_option maxHeartbeats 16000000 in
set_option maxRecDepth 100000 in
theorem goATL (a : Option Addr) (n cap : Nat) (wd st : Int) (E1 V1 : Int) (X : Int) (l : List (Int × Int)) (w : World) (NV : Hid (Pts w (.slice a n cap) l)) (hf : fwB l.length = true) (n1 : (E1 == 0) = false) (z1 : decide ((10000 : Int) < 0) = false) (z2 : decide ((10000 : Int) < 10000) = false) (z3 : decide (X < wd) = false) (z4 : decide ((10000 : Int) < 10000) = false) (z8 : ((10000 : Int) == 10000) = true) (z9 : (wd == wd) = true) (z10 : ((0 : Int) == 0) = true)
    (C1 : Hid (∀ W, Pts W (.slice a n cap) l → Calls Try.prog 17 #[.slice a n cap, .int .i64 st] W fun e w' => e = .returned (.tuple #[.int .i64 V1, .int .i64 E1]) ∧ Below W.heap.size W w'))
    (C5 : Hid (∀ W, Pts W (.slice a n cap) l → Calls Try.prog 17 #[.slice a n cap, .int .i64 10000] W fun e w' => e = .returned (.tuple #[.int .i64 X, .int .i64 0]) ∧ Below W.heap.size W w'))
    (C7 : Hid (∀ W, Pts W (.slice a n cap) l → Calls Try.prog 17 #[.slice a n cap, .int .i64 0] W fun e w' => e = .returned (.tuple #[.int .i64 wd, .int .i64 0]) ∧ Below W.heap.size W w'))
    (C9 : Hid (∀ W, Pts W (.slice a n cap) l → Calls Try.prog 21 #[.slice a n cap, .int .i64 wd] W fun e w' => e = .returned (.tuple #[.agg #[.int .i64 0, .int .i64 10000], .int .i64 0]) ∧ Below W.heap.size W w'))
    (C4 : Hid (∀ W, Pts W (.slice a n cap) l → Calls Try.prog 19 #[.slice a n cap, .int .i64 wd] W fun e w' => e = .returned (.tuple #[.int .i64 10000, .int .i64 0]) ∧ Below W.heap.size W w')) :
    Calls Try.prog 7 #[.slice a n cap, .int .i64 wd, .int .i64 st] w fun e w' => e = .returned (.bool true) ∧ Below w.heap.size w w' := by
  have HA := Lib.hid (fun W => awakeI_any W)
  have FW := Lib.hid (fun v W h => few_any v l W h)
  rw [hf] at FW
  have hmf : ∀ (fn : Fn) (first cap : Array Value) (w : World), (Instr.makeFunc fn first cap).run Try.prog w = .ok (.func fn first cap) w := fun _ _ _ _ => rfl
  have eg : ∀ args w, (callFunc 31 args).run Try.prog w = .ok (.enter 31 args) w := enters_of Try.func31 (by kernel_rfl) rfl
  have S := Lib.hid (US.init NV.out)
  have c0 := S.out.2.1.cell
  clear NV
  go_enter Try.func7, Try.ntmps7
  go_wp2_with fail
  refine (HA.out _).mono ?_
  rintro e w1 ⟨rfl, h1⟩
  replace S := Lib.hid (S.out.below h1)
  clear h1 c0
  have c0 := S.out.2.1.cell
  go_wp2_with fail
  refine (FW.out _ _ S.out.2.2).mono ?_
  rintro e w90 ⟨rfl, hw⟩
  subst hw
  go_wp2_with fail
  refine (C1.out _ S.out.2.2).mono ?_
  rintro e w2 ⟨rfl, h1⟩
  replace S := Lib.hid (S.out.below h1)
  clear h1 c0
  have c0 := S.out.2.1.cell
  go_wp2_with fail
  refine (C4.out _ S.out.2.2).mono ?_
  rintro e w5 ⟨rfl, h1⟩
  replace S := Lib.hid (S.out.below h1)
  clear h1 c0
  have c0 := S.out.2.1.cell
  go_wp2_with fail
  refine (clo _ _ _ _ _ _ _ l _ c0 (Lib.hid (C5.out _ S.out.2.2))).mono ?_
  rintro e w60 ⟨rfl, h1⟩
  replace S := Lib.hid (S.out.below h1)
  clear h1 c0
  have c0 := S.out.2.1.cell
  go_wp2_with fail
  refine (C9.out _ S.out.2.2).mono ?_
  rintro e w9 ⟨rfl, h1⟩
  replace S := Lib.hid ((S.out.below h1).alloc (.cells #[.int .i64 0, .int .i64 10000] 29))
  have T2 := Lib.hid (Two.new w9 (.int .i64 0) (.int .i64 10000) 29)
  clear h1 c0
  have c0 := S.out.2.1.cell
  obtain ⟨t0, t1, _, _, _⟩ := T2.out
  go_wp2_with fail
  refine (clo _ _ _ _ _ _ _ l _ c0 (Lib.hid (C7.out _ S.out.2.2))).mono ?_
  rintro e w72 ⟨rfl, h1⟩
  replace S := Lib.hid (S.out.below h1)
  replace T2 := Lib.hid (T2.out.below h1)
  clear h1 c0
  have c0 := S.out.2.1.cell
  clear t0 t1
  obtain ⟨t0, t1, _, _, _⟩ := T2.out
  go_wp2
  go_returns
  exact ⟨rfl, S.out.1⟩
set_option maxHeartbeats 16000000 in
set_option maxRecDepth 100000 in
theorem goATG (a : Option Addr) (n cap : Nat) (wd st : Int) (E1 V1 : Int) (X : Int) (lo Z : Int) (l : List (Int × Int)) (w : World) (NV : Hid (Pts w (.slice a n cap) l)) (hf : fwB l.length = true) (n1 : (E1 == 0) = false) (z1 : decide ((10000 : Int) < 0) = false) (z2 : decide ((10000 : Int) < 10000) = false) (z3 : decide (X < wd) = false) (z4 : decide ((10000 : Int) < 10000) = false) (z8 : ((10000 : Int) == 10000) = true) (z9 : (wd == wd) = true) (z10 : (lo == 0) = false) (z11 : IntKind.i64.wrap (lo - 1) = lo - 1) (z12 : decide (wd < Z) = true)
    (C1 : Hid (∀ W, Pts W (.slice a n cap) l → Calls Try.prog 17 #[.slice a n cap, .int .i64 st] W fun e w' => e = .returned (.tuple #[.int .i64 V1, .int .i64 E1]) ∧ Below W.heap.size W w'))
    (C5 : Hid (∀ W, Pts W (.slice a n cap) l → Calls Try.prog 17 #[.slice a n cap, .int .i64 10000] W fun e w' => e = .returned (.tuple #[.int .i64 X, .int .i64 0]) ∧ Below W.heap.size W w'))
    (C7 : Hid (∀ W, Pts W (.slice a n cap) l → Calls Try.prog 17 #[.slice a n cap, .int .i64 lo] W fun e w' => e = .returned (.tuple #[.int .i64 wd, .int .i64 0]) ∧ Below W.heap.size W w'))
    (C8 : Hid (∀ W, Pts W (.slice a n cap) l → Calls Try.prog 17 #[.slice a n cap, .int .i64 (lo - 1)] W fun e w' => e = .returned (.tuple #[.int .i64 Z, .int .i64 0]) ∧ Below W.heap.size W w'))
    (C9 : Hid (∀ W, Pts W (.slice a n cap) l → Calls Try.prog 21 #[.slice a n cap, .int .i64 wd] W fun e w' => e = .returned (.tuple #[.agg #[.int .i64 lo, .int .i64 10000], .int .i64 0]) ∧ Below W.heap.size W w'))
    (C4 : Hid (∀ W, Pts W (.slice a n cap) l → Calls Try.prog 19 #[.slice a n cap, .int .i64 wd] W fun e w' => e = .returned (.tuple #[.int .i64 10000, .int .i64 0]) ∧ Below W.heap.size W w')) :
    Calls Try.prog 7 #[.slice a n cap, .int .i64 wd, .int .i64 st] w fun e w' => e = .returned (.bool true) ∧ Below w.heap.size w w' := by
  have HA := Lib.hid (fun W => awakeI_any W)
  have FW := Lib.hid (fun v W h => few_any v l W h)
  rw [hf] at FW
  have hmf : ∀ (fn : Fn) (first cap : Array Value) (w : World), (Instr.makeFunc fn first cap).run Try.prog w = .ok (.func fn first cap) w := fun _ _ _ _ => rfl
  have eg : ∀ args w, (callFunc 31 args).run Try.prog w = .ok (.enter 31 args) w := enters_of Try.func31 (by kernel_rfl) rfl
  have S := Lib.hid (US.init NV.out)
  have c0 := S.out.2.1.cell
  clear NV
  go_enter Try.func7, Try.ntmps7
  go_wp2_with fail
  refine (HA.out _).mono ?_
  rintro e w1 ⟨rfl, h1⟩
  replace S := Lib.hid (S.out.below h1)
  clear h1 c0
  have c0 := S.out.2.1.cell
  go_wp2_with fail
  refine (FW.out _ _ S.out.2.2).mono ?_
  rintro e w90 ⟨rfl, hw⟩
  subst hw
  go_wp2_with fail
  refine (C1.out _ S.out.2.2).mono ?_
  rintro e w2 ⟨rfl, h1⟩
  replace S := Lib.hid (S.out.below h1)
  clear h1 c0
  have c0 := S.out.2.1.cell
  go_wp2_with fail
  refine (C4.out _ S.out.2.2).mono ?_
  rintro e w5 ⟨rfl, h1⟩
  replace S := Lib.hid (S.out.below h1)
  clear h1 c0
  have c0 := S.out.2.1.cell
  go_wp2_with fail
  refine (clo _ _ _ _ _ _ _ l _ c0 (Lib.hid (C5.out _ S.out.2.2))).mono ?_
  rintro e w60 ⟨rfl, h1⟩
  replace S := Lib.hid (S.out.below h1)
  clear h1 c0
  have c0 := S.out.2.1.cell
  go_wp2_with fail
  refine (C9.out _ S.out.2.2).mono ?_
  rintro e w9 ⟨rfl, h1⟩
  replace S := Lib.hid ((S.out.below h1).alloc (.cells #[.int .i64 lo, .int .i64 10000] 29))
  have T2 := Lib.hid (Two.new w9 (.int .i64 lo) (.int .i64 10000) 29)
  clear h1 c0
  have c0 := S.out.2.1.cell
  obtain ⟨t0, t1, _, _, _⟩ := T2.out
  go_wp2_with fail
  refine (clo _ _ _ _ _ _ _ l _ c0 (Lib.hid (C7.out _ S.out.2.2))).mono ?_
  rintro e w72 ⟨rfl, h1⟩
  replace S := Lib.hid (S.out.below h1)
  replace T2 := Lib.hid (T2.out.below h1)
  clear h1 c0
  have c0 := S.out.2.1.cell
  clear t0 t1
  obtain ⟨t0, t1, _, _, _⟩ := T2.out
  go_wp2_with fail
  refine (clo _ _ _ _ _ _ _ l _ c0 (Lib.hid (C8.out _ S.out.2.2))).mono ?_
  rintro e w73 ⟨rfl, h1⟩
  replace S := Lib.hid (S.out.below h1)
  replace T2 := Lib.hid (T2.out.below h1)
  clear h1 c0
  have c0 := S.out.2.1.cell
  clear t0 t1
  obtain ⟨t0, t1, _, _, _⟩ := T2.out
  go_wp2
  go_returns
  exact ⟨rfl, S.out.1⟩
set_option maxHeartbeats 16000000 in
set_option maxRecDepth 100000 in
theorem goBS7 (a : Option Addr) (n cap : Nat) (wd st : Int) (V1 lo1 hi1 : Int) (X : Int) (s Y : Int) (l : List (Int × Int)) (w : World) (NV : Hid (Pts w (.slice a n cap) l)) (hf : fwB l.length = true) (m1 : (hi1 != hi1) = false) (m2 : decide (st < lo1) = false) (m3 : decide (hi1 < st) = false) (z1 : decide ((s : Int) < 0) = false) (z2 : decide ((10000 : Int) < s) = false) (z3 : decide (X < wd) = false) (z4 : decide ((s : Int) < 10000) = true) (z5 : IntKind.i64.wrap (s + 1) = s + 1) (z6 : decide (wd ≤ Y) = false) (z7 : (X != wd) = true)
    (C1 : Hid (∀ W, Pts W (.slice a n cap) l → Calls Try.prog 17 #[.slice a n cap, .int .i64 st] W fun e w' => e = .returned (.tuple #[.int .i64 V1, .int .i64 0]) ∧ Below W.heap.size W w'))
    (C2 : Hid (∀ W, Pts W (.slice a n cap) l → Calls Try.prog 19 #[.slice a n cap, .int .i64 V1] W fun e w' => e = .returned (.tuple #[.int .i64 hi1, .int .i64 0]) ∧ Below W.heap.size W w'))
    (C3 : Hid (∀ W, Pts W (.slice a n cap) l → Calls Try.prog 21 #[.slice a n cap, .int .i64 V1] W fun e w' => e = .returned (.tuple #[.agg #[.int .i64 lo1, .int .i64 hi1], .int .i64 0]) ∧ Below W.heap.size W w'))
    (C5 : Hid (∀ W, Pts W (.slice a n cap) l → Calls Try.prog 17 #[.slice a n cap, .int .i64 s] W fun e w' => e = .returned (.tuple #[.int .i64 X, .int .i64 0]) ∧ Below W.heap.size W w'))
    (C6 : Hid (∀ W, Pts W (.slice a n cap) l → Calls Try.prog 17 #[.slice a n cap, .int .i64 (s + 1)] W fun e w' => e = .returned (.tuple #[.int .i64 Y, .int .i64 0]) ∧ Below W.heap.size W w'))
    (C9 : Hid (∀ W, Pts W (.slice a n cap) l → Calls Try.prog 21 #[.slice a n cap, .int .i64 wd] W fun e w' => e = .returned (.tuple #[.agg #[.int .i64 0, .int .i64 0], .int .i64 7]) ∧ Below W.heap.size W w'))
    (C4 : Hid (∀ W, Pts W (.slice a n cap) l → Calls Try.prog 19 #[.slice a n cap, .int .i64 wd] W fun e w' => e = .returned (.tuple #[.int .i64 s, .int .i64 0]) ∧ Below W.heap.size W w')) :
    Calls Try.prog 7 #[.slice a n cap, .int .i64 wd, .int .i64 st] w fun e w' => e = .returned (.bool true) ∧ Below w.heap.size w w' := by
  have HA := Lib.hid (fun W => awakeI_any W)
  have FW := Lib.hid (fun v W h => few_any v l W h)
  rw [hf] at FW
  have hmf : ∀ (fn : Fn) (first cap : Array Value) (w : World), (Instr.makeFunc fn first cap).run Try.prog w = .ok (.func fn first cap) w := fun _ _ _ _ => rfl
  have eg : ∀ args w, (callFunc 31 args).run Try.prog w = .ok (.enter 31 args) w := enters_of Try.func31 (by kernel_rfl) rfl
  have S := Lib.hid (US.init NV.out)
  have c0 := S.out.2.1.cell
  clear NV
  go_enter Try.func7, Try.ntmps7
  go_wp2_with fail
  refine (HA.out _).mono ?_
  rintro e w1 ⟨rfl, h1⟩
  replace S := Lib.hid (S.out.below h1)
  clear h1 c0
  have c0 := S.out.2.1.cell
  go_wp2_with fail
  refine (FW.out _ _ S.out.2.2).mono ?_
  rintro e w90 ⟨rfl, hw⟩
  subst hw
  go_wp2_with fail
  refine (C1.out _ S.out.2.2).mono ?_
  rintro e w2 ⟨rfl, h1⟩
  replace S := Lib.hid (S.out.below h1)
  clear h1 c0
  have c0 := S.out.2.1.cell
  go_wp2_with fail
  refine (C2.out _ S.out.2.2).mono ?_
  rintro e w3 ⟨rfl, h1⟩
  replace S := Lib.hid (S.out.below h1)
  clear h1 c0
  have c0 := S.out.2.1.cell
  go_wp2_with fail
  refine (C3.out _ S.out.2.2).mono ?_
  rintro e w4 ⟨rfl, h1⟩
  replace S := Lib.hid ((S.out.below h1).alloc (.cells #[.int .i64 lo1, .int .i64 hi1] 29))
  have T1 := Lib.hid (Two.new w4 (.int .i64 lo1) (.int .i64 hi1) 29)
  clear h1 c0
  have c0 := S.out.2.1.cell
  obtain ⟨t0, t1, _, _, _⟩ := T1.out
  clear T1
  go_wp2_with fail
  refine (C4.out _ S.out.2.2).mono ?_
  rintro e w5 ⟨rfl, h1⟩
  replace S := Lib.hid (S.out.below h1)
  clear h1 c0
  have c0 := S.out.2.1.cell
  go_wp2_with fail
  refine (clo _ _ _ _ _ _ _ l _ c0 (Lib.hid (C5.out _ S.out.2.2))).mono ?_
  rintro e w60 ⟨rfl, h1⟩
  replace S := Lib.hid (S.out.below h1)
  clear h1 c0
  have c0 := S.out.2.1.cell
  go_wp2_with fail
  refine (clo _ _ _ _ _ _ _ l _ c0 (Lib.hid (C6.out _ S.out.2.2))).mono ?_
  rintro e w61 ⟨rfl, h1⟩
  replace S := Lib.hid (S.out.below h1)
  clear h1 c0
  have c0 := S.out.2.1.cell
  go_wp2_with fail
  refine (C9.out _ S.out.2.2).mono ?_
  rintro e w9 ⟨rfl, h1⟩
  replace S := Lib.hid ((S.out.below h1).alloc (.cells #[.int .i64 0, .int .i64 0] 29))
  have T2 := Lib.hid (Two.new w9 (.int .i64 0) (.int .i64 0) 29)
  clear h1 c0
  have c0 := S.out.2.1.cell
  obtain ⟨t0, t1, _, _, _⟩ := T2.out
  go_wp2_with fail
  refine (clo _ _ _ _ _ _ _ l _ c0 (Lib.hid (C5.out _ S.out.2.2))).mono ?_
  rintro e w71 ⟨rfl, h1⟩
  replace S := Lib.hid (S.out.below h1)
  clear h1 c0
  have c0 := S.out.2.1.cell
  go_wp2
  go_returns
  exact ⟨rfl, S.out.1⟩
set_option maxHeartbeats 16000000 in
set_option maxRecDepth 100000 in
theorem goBSL (a : Option Addr) (n cap : Nat) (wd st : Int) (V1 lo1 hi1 : Int) (X : Int) (s Y : Int) (l : List (Int × Int)) (w : World) (NV : Hid (Pts w (.slice a n cap) l)) (hf : fwB l.length = true) (m1 : (hi1 != hi1) = false) (m2 : decide (st < lo1) = false) (m3 : decide (hi1 < st) = false) (z1 : decide ((s : Int) < 0) = false) (z2 : decide ((10000 : Int) < s) = false) (z3 : decide (X < wd) = false) (z4 : decide ((s : Int) < 10000) = true) (z5 : IntKind.i64.wrap (s + 1) = s + 1) (z6 : decide (wd ≤ Y) = false) (z8 : ((s : Int) == s) = true) (z9 : (wd == wd) = true) (z10 : ((0 : Int) == 0) = true)
    (C1 : Hid (∀ W, Pts W (.slice a n cap) l → Calls Try.prog 17 #[.slice a n cap, .int .i64 st] W fun e w' => e = .returned (.tuple #[.int .i64 V1, .int .i64 0]) ∧ Below W.heap.size W w'))
    (C2 : Hid (∀ W, Pts W (.slice a n cap) l → Calls Try.prog 19 #[.slice a n cap, .int .i64 V1] W fun e w' => e = .returned (.tuple #[.int .i64 hi1, .int .i64 0]) ∧ Below W.heap.size W w'))
    (C3 : Hid (∀ W, Pts W (.slice a n cap) l → Calls Try.prog 21 #[.slice a n cap, .int .i64 V1] W fun e w' => e = .returned (.tuple #[.agg #[.int .i64 lo1, .int .i64 hi1], .int .i64 0]) ∧ Below W.heap.size W w'))
    (C5 : Hid (∀ W, Pts W (.slice a n cap) l → Calls Try.prog 17 #[.slice a n cap, .int .i64 s] W fun e w' => e = .returned (.tuple #[.int .i64 X, .int .i64 0]) ∧ Below W.heap.size W w'))
    (C6 : Hid (∀ W, Pts W (.slice a n cap) l → Calls Try.prog 17 #[.slice a n cap, .int .i64 (s + 1)] W fun e w' => e = .returned (.tuple #[.int .i64 Y, .int .i64 0]) ∧ Below W.heap.size W w'))
    (C7 : Hid (∀ W, Pts W (.slice a n cap) l → Calls Try.prog 17 #[.slice a n cap, .int .i64 0] W fun e w' => e = .returned (.tuple #[.int .i64 wd, .int .i64 0]) ∧ Below W.heap.size W w'))
    (C9 : Hid (∀ W, Pts W (.slice a n cap) l → Calls Try.prog 21 #[.slice a n cap, .int .i64 wd] W fun e w' => e = .returned (.tuple #[.agg #[.int .i64 0, .int .i64 s], .int .i64 0]) ∧ Below W.heap.size W w'))
    (C4 : Hid (∀ W, Pts W (.slice a n cap) l → Calls Try.prog 19 #[.slice a n cap, .int .i64 wd] W fun e w' => e = .returned (.tuple #[.int .i64 s, .int .i64 0]) ∧ Below W.heap.size W w')) :
    Calls Try.prog 7 #[.slice a n cap, .int .i64 wd, .int .i64 st] w fun e w' => e = .returned (.bool true) ∧ Below w.heap.size w w' := by
  have HA := Lib.hid (fun W => awakeI_any W)
  have FW := Lib.hid (fun v W h => few_any v l W h)
  rw [hf] at FW
  have hmf : ∀ (fn : Fn) (first cap : Array Value) (w : World), (Instr.makeFunc fn first cap).run Try.prog w = .ok (.func fn first cap) w := fun _ _ _ _ => rfl
  have eg : ∀ args w, (callFunc 31 args).run Try.prog w = .ok (.enter 31 args) w := enters_of Try.func31 (by kernel_rfl) rfl
  have S := Lib.hid (US.init NV.out)
  have c0 := S.out.2.1.cell
  clear NV
  go_enter Try.func7, Try.ntmps7
  go_wp2_with fail
  refine (HA.out _).mono ?_
  rintro e w1 ⟨rfl, h1⟩
  replace S := Lib.hid (S.out.below h1)
  clear h1 c0
  have c0 := S.out.2.1.cell
  go_wp2_with fail
  refine (FW.out _ _ S.out.2.2).mono ?_
  rintro e w90 ⟨rfl, hw⟩
  subst hw
  go_wp2_with fail
  refine (C1.out _ S.out.2.2).mono ?_
  rintro e w2 ⟨rfl, h1⟩
  replace S := Lib.hid (S.out.below h1)
  clear h1 c0
  have c0 := S.out.2.1.cell
  go_wp2_with fail
  refine (C2.out _ S.out.2.2).mono ?_
  rintro e w3 ⟨rfl, h1⟩
  replace S := Lib.hid (S.out.below h1)
  clear h1 c0
  have c0 := S.out.2.1.cell
  go_wp2_with fail
  refine (C3.out _ S.out.2.2).mono ?_
  rintro e w4 ⟨rfl, h1⟩
  replace S := Lib.hid ((S.out.below h1).alloc (.cells #[.int .i64 lo1, .int .i64 hi1] 29))
  have T1 := Lib.hid (Two.new w4 (.int .i64 lo1) (.int .i64 hi1) 29)
  clear h1 c0
  have c0 := S.out.2.1.cell
  obtain ⟨t0, t1, _, _, _⟩ := T1.out
  clear T1
  go_wp2_with fail
  refine (C4.out _ S.out.2.2).mono ?_
  rintro e w5 ⟨rfl, h1⟩
  replace S := Lib.hid (S.out.below h1)
  clear h1 c0
  have c0 := S.out.2.1.cell
  go_wp2_with fail
  refine (clo _ _ _ _ _ _ _ l _ c0 (Lib.hid (C5.out _ S.out.2.2))).mono ?_
  rintro e w60 ⟨rfl, h1⟩
  replace S := Lib.hid (S.out.below h1)
  clear h1 c0
  have c0 := S.out.2.1.cell
  go_wp2_with fail
  refine (clo _ _ _ _ _ _ _ l _ c0 (Lib.hid (C6.out _ S.out.2.2))).mono ?_
  rintro e w61 ⟨rfl, h1⟩
  replace S := Lib.hid (S.out.below h1)
  clear h1 c0
  have c0 := S.out.2.1.cell
  go_wp2_with fail
  refine (C9.out _ S.out.2.2).mono ?_
  rintro e w9 ⟨rfl, h1⟩
  replace S := Lib.hid ((S.out.below h1).alloc (.cells #[.int .i64 0, .int .i64 s] 29))
  have T2 := Lib.hid (Two.new w9 (.int .i64 0) (.int .i64 s) 29)
  clear h1 c0
  have c0 := S.out.2.1.cell
  obtain ⟨t0, t1, _, _, _⟩ := T2.out
  go_wp2_with fail
  refine (clo _ _ _ _ _ _ _ l _ c0 (Lib.hid (C7.out _ S.out.2.2))).mono ?_
  rintro e w72 ⟨rfl, h1⟩
  replace S := Lib.hid (S.out.below h1)
  replace T2 := Lib.hid (T2.out.below h1)
  clear h1 c0
  have c0 := S.out.2.1.cell
  clear t0 t1
  obtain ⟨t0, t1, _, _, _⟩ := T2.out
  go_wp2
  go_returns
  exact ⟨rfl, S.out.1⟩
set_option maxHeartbeats 16000000 in
set_option maxRecDepth 100000 in
theorem goBSG (a : Option Addr) (n cap : Nat) (wd st : Int) (V1 lo1 hi1 : Int) (X : Int) (s Y : Int) (lo Z : Int) (l : List (Int × Int)) (w : World) (NV : Hid (Pts w (.slice a n cap) l)) (hf : fwB l.length = true) (m1 : (hi1 != hi1) = false) (m2 : decide (st < lo1) = false) (m3 : decide (hi1 < st) = false) (z1 : decide ((s : Int) < 0) = false) (z2 : decide ((10000 : Int) < s) = false) (z3 : decide (X < wd) = false) (z4 : decide ((s : Int) < 10000) = true) (z5 : IntKind.i64.wrap (s + 1) = s + 1) (z6 : decide (wd ≤ Y) = false) (z8 : ((s : Int) == s) = true) (z9 : (wd == wd) = true) (z10 : (lo == 0) = false) (z11 : IntKind.i64.wrap (lo - 1) = lo - 1) (z12 : decide (wd < Z) = true)
    (C1 : Hid (∀ W, Pts W (.slice a n cap) l → Calls Try.prog 17 #[.slice a n cap, .int .i64 st] W fun e w' => e = .returned (.tuple #[.int .i64 V1, .int .i64 0]) ∧ Below W.heap.size W w'))
    (C2 : Hid (∀ W, Pts W (.slice a n cap) l → Calls Try.prog 19 #[.slice a n cap, .int .i64 V1] W fun e w' => e = .returned (.tuple #[.int .i64 hi1, .int .i64 0]) ∧ Below W.heap.size W w'))
    (C3 : Hid (∀ W, Pts W (.slice a n cap) l → Calls Try.prog 21 #[.slice a n cap, .int .i64 V1] W fun e w' => e = .returned (.tuple #[.agg #[.int .i64 lo1, .int .i64 hi1], .int .i64 0]) ∧ Below W.heap.size W w'))
    (C5 : Hid (∀ W, Pts W (.slice a n cap) l → Calls Try.prog 17 #[.slice a n cap, .int .i64 s] W fun e w' => e = .returned (.tuple #[.int .i64 X, .int .i64 0]) ∧ Below W.heap.size W w'))
    (C6 : Hid (∀ W, Pts W (.slice a n cap) l → Calls Try.prog 17 #[.slice a n cap, .int .i64 (s + 1)] W fun e w' => e = .returned (.tuple #[.int .i64 Y, .int .i64 0]) ∧ Below W.heap.size W w'))
    (C7 : Hid (∀ W, Pts W (.slice a n cap) l → Calls Try.prog 17 #[.slice a n cap, .int .i64 lo] W fun e w' => e = .returned (.tuple #[.int .i64 wd, .int .i64 0]) ∧ Below W.heap.size W w'))
    (C8 : Hid (∀ W, Pts W (.slice a n cap) l → Calls Try.prog 17 #[.slice a n cap, .int .i64 (lo - 1)] W fun e w' => e = .returned (.tuple #[.int .i64 Z, .int .i64 0]) ∧ Below W.heap.size W w'))
    (C9 : Hid (∀ W, Pts W (.slice a n cap) l → Calls Try.prog 21 #[.slice a n cap, .int .i64 wd] W fun e w' => e = .returned (.tuple #[.agg #[.int .i64 lo, .int .i64 s], .int .i64 0]) ∧ Below W.heap.size W w'))
    (C4 : Hid (∀ W, Pts W (.slice a n cap) l → Calls Try.prog 19 #[.slice a n cap, .int .i64 wd] W fun e w' => e = .returned (.tuple #[.int .i64 s, .int .i64 0]) ∧ Below W.heap.size W w')) :
    Calls Try.prog 7 #[.slice a n cap, .int .i64 wd, .int .i64 st] w fun e w' => e = .returned (.bool true) ∧ Below w.heap.size w w' := by
  have HA := Lib.hid (fun W => awakeI_any W)
  have FW := Lib.hid (fun v W h => few_any v l W h)
  rw [hf] at FW
  have hmf : ∀ (fn : Fn) (first cap : Array Value) (w : World), (Instr.makeFunc fn first cap).run Try.prog w = .ok (.func fn first cap) w := fun _ _ _ _ => rfl
  have eg : ∀ args w, (callFunc 31 args).run Try.prog w = .ok (.enter 31 args) w := enters_of Try.func31 (by kernel_rfl) rfl
  have S := Lib.hid (US.init NV.out)
  have c0 := S.out.2.1.cell
  clear NV
  go_enter Try.func7, Try.ntmps7
  go_wp2_with fail
  refine (HA.out _).mono ?_
  rintro e w1 ⟨rfl, h1⟩
  replace S := Lib.hid (S.out.below h1)
  clear h1 c0
  have c0 := S.out.2.1.cell
  go_wp2_with fail
  refine (FW.out _ _ S.out.2.2).mono ?_
  rintro e w90 ⟨rfl, hw⟩
  subst hw
  go_wp2_with fail
  refine (C1.out _ S.out.2.2).mono ?_
  rintro e w2 ⟨rfl, h1⟩
  replace S := Lib.hid (S.out.below h1)
  clear h1 c0
  have c0 := S.out.2.1.cell
  go_wp2_with fail
  refine (C2.out _ S.out.2.2).mono ?_
  rintro e w3 ⟨rfl, h1⟩
  replace S := Lib.hid (S.out.below h1)
  clear h1 c0
  have c0 := S.out.2.1.cell
  go_wp2_with fail
  refine (C3.out _ S.out.2.2).mono ?_
  rintro e w4 ⟨rfl, h1⟩
  replace S := Lib.hid ((S.out.below h1).alloc (.cells #[.int .i64 lo1, .int .i64 hi1] 29))
  have T1 := Lib.hid (Two.new w4 (.int .i64 lo1) (.int .i64 hi1) 29)
  clear h1 c0
  have c0 := S.out.2.1.cell
  obtain ⟨t0, t1, _, _, _⟩ := T1.out
  clear T1
  go_wp2_with fail
  refine (C4.out _ S.out.2.2).mono ?_
  rintro e w5 ⟨rfl, h1⟩
  replace S := Lib.hid (S.out.below h1)
  clear h1 c0
  have c0 := S.out.2.1.cell
  go_wp2_with fail
  refine (clo _ _ _ _ _ _ _ l _ c0 (Lib.hid (C5.out _ S.out.2.2))).mono ?_
  rintro e w60 ⟨rfl, h1⟩
  replace S := Lib.hid (S.out.below h1)
  clear h1 c0
  have c0 := S.out.2.1.cell
  go_wp2_with fail
  refine (clo _ _ _ _ _ _ _ l _ c0 (Lib.hid (C6.out _ S.out.2.2))).mono ?_
  rintro e w61 ⟨rfl, h1⟩
  replace S := Lib.hid (S.out.below h1)
  clear h1 c0
  have c0 := S.out.2.1.cell
  go_wp2_with fail
  refine (C9.out _ S.out.2.2).mono ?_
  rintro e w9 ⟨rfl, h1⟩
  replace S := Lib.hid ((S.out.below h1).alloc (.cells #[.int .i64 lo, .int .i64 s] 29))
  have T2 := Lib.hid (Two.new w9 (.int .i64 lo) (.int .i64 s) 29)
  clear h1 c0
  have c0 := S.out.2.1.cell
  obtain ⟨t0, t1, _, _, _⟩ := T2.out
  go_wp2_with fail
  refine (clo _ _ _ _ _ _ _ l _ c0 (Lib.hid (C7.out _ S.out.2.2))).mono ?_
  rintro e w72 ⟨rfl, h1⟩
  replace S := Lib.hid (S.out.below h1)
  replace T2 := Lib.hid (T2.out.below h1)
  clear h1 c0
  have c0 := S.out.2.1.cell
  clear t0 t1
  obtain ⟨t0, t1, _, _, _⟩ := T2.out
  go_wp2_with fail
  refine (clo _ _ _ _ _ _ _ l _ c0 (Lib.hid (C8.out _ S.out.2.2))).mono ?_
  rintro e w73 ⟨rfl, h1⟩
  replace S := Lib.hid (S.out.below h1)
  replace T2 := Lib.hid (T2.out.below h1)
  clear h1 c0
  have c0 := S.out.2.1.cell
  clear t0 t1
  obtain ⟨t0, t1, _, _, _⟩ := T2.out
  go_wp2
  go_returns
  exact ⟨rfl, S.out.1⟩
set_option maxHeartbeats 16000000 in
set_option maxRecDepth 100000 in
theorem goBT7 (a : Option Addr) (n cap : Nat) (wd st : Int) (V1 lo1 hi1 : Int) (X : Int) (l : List (Int × Int)) (w : World) (NV : Hid (Pts w (.slice a n cap) l)) (hf : fwB l.length = true) (m1 : (hi1 != hi1) = false) (m2 : decide (st < lo1) = false) (m3 : decide (hi1 < st) = false) (z1 : decide ((10000 : Int) < 0) = false) (z2 : decide ((10000 : Int) < 10000) = false) (z3 : decide (X < wd) = false) (z4 : decide ((10000 : Int) < 10000) = false) (z7 : (X != wd) = true)
    (C1 : Hid (∀ W, Pts W (.slice a n cap) l → Calls Try.prog 17 #[.slice a n cap, .int .i64 st] W fun e w' => e = .returned (.tuple #[.int .i64 V1, .int .i64 0]) ∧ Below W.heap.size W w'))
    (C2 : Hid (∀ W, Pts W (.slice a n cap) l → Calls Try.prog 19 #[.slice a n cap, .int .i64 V1] W fun e w' => e = .returned (.tuple #[.int .i64 hi1, .int .i64 0]) ∧ Below W.heap.size W w'))
    (C3 : Hid (∀ W, Pts W (.slice a n cap) l → Calls Try.prog 21 #[.slice a n cap, .int .i64 V1] W fun e w' => e = .returned (.tuple #[.agg #[.int .i64 lo1, .int .i64 hi1], .int .i64 0]) ∧ Below W.heap.size W w'))
    (C5 : Hid (∀ W, Pts W (.slice a n cap) l → Calls Try.prog 17 #[.slice a n cap, .int .i64 10000] W fun e w' => e = .returned (.tuple #[.int .i64 X, .int .i64 0]) ∧ Below W.heap.size W w'))
    (C9 : Hid (∀ W, Pts W (.slice a n cap) l → Calls Try.prog 21 #[.slice a n cap, .int .i64 wd] W fun e w' => e = .returned (.tuple #[.agg #[.int .i64 0, .int .i64 0], .int .i64 7]) ∧ Below W.heap.size W w'))
    (C4 : Hid (∀ W, Pts W (.slice a n cap) l → Calls Try.prog 19 #[.slice a n cap, .int .i64 wd] W fun e w' => e = .returned (.tuple #[.int .i64 10000, .int .i64 0]) ∧ Below W.heap.size W w')) :
    Calls Try.prog 7 #[.slice a n cap, .int .i64 wd, .int .i64 st] w fun e w' => e = .returned (.bool true) ∧ Below w.heap.size w w' := by
  have HA := Lib.hid (fun W => awakeI_any W)
  have FW := Lib.hid (fun v W h => few_any v l W h)
  rw [hf] at FW
  have hmf : ∀ (fn : Fn) (first cap : Array Value) (w : World), (Instr.makeFunc fn first cap).run Try.prog w = .ok (.func fn first cap) w := fun _ _ _ _ => rfl
  have eg : ∀ args w, (callFunc 31 args).run Try.prog w = .ok (.enter 31 args) w := enters_of Try.func31 (by kernel_rfl) rfl
  have S := Lib.hid (US.init NV.out)
  have c0 := S.out.2.1.cell
  clear NV
  go_enter Try.func7, Try.ntmps7
  go_wp2_with fail
  refine (HA.out _).mono ?_
  rintro e w1 ⟨rfl, h1⟩
  replace S := Lib.hid (S.out.below h1)
  clear h1 c0
  have c0 := S.out.2.1.cell
  go_wp2_with fail
  refine (FW.out _ _ S.out.2.2).mono ?_
  rintro e w90 ⟨rfl, hw⟩
  subst hw
  go_wp2_with fail
  refine (C1.out _ S.out.2.2).mono ?_
  rintro e w2 ⟨rfl, h1⟩
  replace S := Lib.hid (S.out.below h1)
  clear h1 c0
  have c0 := S.out.2.1.cell
  go_wp2_with fail
  refine (C2.out _ S.out.2.2).mono ?_
  rintro e w3 ⟨rfl, h1⟩
  replace S := Lib.hid (S.out.below h1)
  clear h1 c0
  have c0 := S.out.2.1.cell
  go_wp2_with fail
  refine (C3.out _ S.out.2.2).mono ?_
  rintro e w4 ⟨rfl, h1⟩
  replace S := Lib.hid ((S.out.below h1).alloc (.cells #[.int .i64 lo1, .int .i64 hi1] 29))
  have T1 := Lib.hid (Two.new w4 (.int .i64 lo1) (.int .i64 hi1) 29)
  clear h1 c0
  have c0 := S.out.2.1.cell
  obtain ⟨t0, t1, _, _, _⟩ := T1.out
  clear T1
  go_wp2_with fail
  refine (C4.out _ S.out.2.2).mono ?_
  rintro e w5 ⟨rfl, h1⟩
  replace S := Lib.hid (S.out.below h1)
  clear h1 c0
  have c0 := S.out.2.1.cell
  go_wp2_with fail
  refine (clo _ _ _ _ _ _ _ l _ c0 (Lib.hid (C5.out _ S.out.2.2))).mono ?_
  rintro e w60 ⟨rfl, h1⟩
  replace S := Lib.hid (S.out.below h1)
  clear h1 c0
  have c0 := S.out.2.1.cell
  go_wp2_with fail
  refine (C9.out _ S.out.2.2).mono ?_
  rintro e w9 ⟨rfl, h1⟩
  replace S := Lib.hid ((S.out.below h1).alloc (.cells #[.int .i64 0, .int .i64 0] 29))
  have T2 := Lib.hid (Two.new w9 (.int .i64 0) (.int .i64 0) 29)
  clear h1 c0
  have c0 := S.out.2.1.cell
  obtain ⟨t0, t1, _, _, _⟩ := T2.out
  go_wp2_with fail
  refine (clo _ _ _ _ _ _ _ l _ c0 (Lib.hid (C5.out _ S.out.2.2))).mono ?_
  rintro e w71 ⟨rfl, h1⟩
  replace S := Lib.hid (S.out.below h1)
  clear h1 c0
  have c0 := S.out.2.1.cell
  go_wp2
  go_returns
  exact ⟨rfl, S.out.1⟩
set_option maxHeartbeats 16000000 in
set_option maxRecDepth 100000 in
theorem goBTL (a : Option Addr) (n cap : Nat) (wd st : Int) (V1 lo1 hi1 : Int) (X : Int) (l : List (Int × Int)) (w : World) (NV : Hid (Pts w (.slice a n cap) l)) (hf : fwB l.length = true) (m1 : (hi1 != hi1) = false) (m2 : decide (st < lo1) = false) (m3 : decide (hi1 < st) = false) (z1 : decide ((10000 : Int) < 0) = false) (z2 : decide ((10000 : Int) < 10000) = false) (z3 : decide (X < wd) = false) (z4 : decide ((10000 : Int) < 10000) = false) (z8 : ((10000 : Int) == 10000) = true) (z9 : (wd == wd) = true) (z10 : ((0 : Int) == 0) = true)
    (C1 : Hid (∀ W, Pts W (.slice a n cap) l → Calls Try.prog 17 #[.slice a n cap, .int .i64 st] W fun e w' => e = .returned (.tuple #[.int .i64 V1, .int .i64 0]) ∧ Below W.heap.size W w'))
    (C2 : Hid (∀ W, Pts W (.slice a n cap) l → Calls Try.prog 19 #[.slice a n cap, .int .i64 V1] W fun e w' => e = .returned (.tuple #[.int .i64 hi1, .int .i64 0]) ∧ Below W.heap.size W w'))
    (C3 : Hid (∀ W, Pts W (.slice a n cap) l → Calls Try.prog 21 #[.slice a n cap, .int .i64 V1] W fun e w' => e = .returned (.tuple #[.agg #[.int .i64 lo1, .int .i64 hi1], .int .i64 0]) ∧ Below W.heap.size W w'))
    (C5 : Hid (∀ W, Pts W (.slice a n cap) l → Calls Try.prog 17 #[.slice a n cap, .int .i64 10000] W fun e w' => e = .returned (.tuple #[.int .i64 X, .int .i64 0]) ∧ Below W.heap.size W w'))
    (C7 : Hid (∀ W, Pts W (.slice a n cap) l → Calls Try.prog 17 #[.slice a n cap, .int .i64 0] W fun e w' => e = .returned (.tuple #[.int .i64 wd, .int .i64 0]) ∧ Below W.heap.size W w'))
    (C9 : Hid (∀ W, Pts W (.slice a n cap) l → Calls Try.prog 21 #[.slice a n cap, .int .i64 wd] W fun e w' => e = .returned (.tuple #[.agg #[.int .i64 0, .int .i64 10000], .int .i64 0]) ∧ Below W.heap.size W w'))
    (C4 : Hid (∀ W, Pts W (.slice a n cap) l → Calls Try.prog 19 #[.slice a n cap, .int .i64 wd] W fun e w' => e = .returned (.tuple #[.int .i64 10000, .int .i64 0]) ∧ Below W.heap.size W w')) :
    Calls Try.prog 7 #[.slice a n cap, .int .i64 wd, .int .i64 st] w fun e w' => e = .returned (.bool true) ∧ Below w.heap.size w w' := by
  have HA := Lib.hid (fun W => awakeI_any W)
  have FW := Lib.hid (fun v W h => few_any v l W h)
  rw [hf] at FW
  have hmf : ∀ (fn : Fn) (first cap : Array Value) (w : World), (Instr.makeFunc fn first cap).run Try.prog w = .ok (.func fn first cap) w := fun _ _ _ _ => rfl
  have eg : ∀ args w, (callFunc 31 args).run Try.prog w = .ok (.enter 31 args) w := enters_of Try.func31 (by kernel_rfl) rfl
  have S := Lib.hid (US.init NV.out)
  have c0 := S.out.2.1.cell
  clear NV
  go_enter Try.func7, Try.ntmps7
  go_wp2_with fail
  refine (HA.out _).mono ?_
  rintro e w1 ⟨rfl, h1⟩
  replace S := Lib.hid (S.out.below h1)
  clear h1 c0
  have c0 := S.out.2.1.cell
  go_wp2_with fail
  refine (FW.out _ _ S.out.2.2).mono ?_
  rintro e w90 ⟨rfl, hw⟩
  subst hw
  go_wp2_with fail
  refine (C1.out _ S.out.2.2).mono ?_
  rintro e w2 ⟨rfl, h1⟩
  replace S := Lib.hid (S.out.below h1)
  clear h1 c0
  have c0 := S.out.2.1.cell
  go_wp2_with fail
  refine (C2.out _ S.out.2.2).mono ?_
  rintro e w3 ⟨rfl, h1⟩
  replace S := Lib.hid (S.out.below h1)
  clear h1 c0
  have c0 := S.out.2.1.cell
  go_wp2_with fail
  refine (C3.out _ S.out.2.2).mono ?_
  rintro e w4 ⟨rfl, h1⟩
  replace S := Lib.hid ((S.out.below h1).alloc (.cells #[.int .i64 lo1, .int .i64 hi1] 29))
  have T1 := Lib.hid (Two.new w4 (.int .i64 lo1) (.int .i64 hi1) 29)
  clear h1 c0
  have c0 := S.out.2.1.cell
  obtain ⟨t0, t1, _, _, _⟩ := T1.out
  clear T1
  go_wp2_with fail
  refine (C4.out _ S.out.2.2).mono ?_
  rintro e w5 ⟨rfl, h1⟩
  replace S := Lib.hid (S.out.below h1)
  clear h1 c0
  have c0 := S.out.2.1.cell
  go_wp2_with fail
  refine (clo _ _ _ _ _ _ _ l _ c0 (Lib.hid (C5.out _ S.out.2.2))).mono ?_
  rintro e w60 ⟨rfl, h1⟩
  replace S := Lib.hid (S.out.below h1)
  clear h1 c0
  have c0 := S.out.2.1.cell
  go_wp2_with fail
  refine (C9.out _ S.out.2.2).mono ?_
  rintro e w9 ⟨rfl, h1⟩
  replace S := Lib.hid ((S.out.below h1).alloc (.cells #[.int .i64 0, .int .i64 10000] 29))
  have T2 := Lib.hid (Two.new w9 (.int .i64 0) (.int .i64 10000) 29)
  clear h1 c0
  have c0 := S.out.2.1.cell
  obtain ⟨t0, t1, _, _, _⟩ := T2.out
  go_wp2_with fail
  refine (clo _ _ _ _ _ _ _ l _ c0 (Lib.hid (C7.out _ S.out.2.2))).mono ?_
  rintro e w72 ⟨rfl, h1⟩
  replace S := Lib.hid (S.out.below h1)
  replace T2 := Lib.hid (T2.out.below h1)
  clear h1 c0
  have c0 := S.out.2.1.cell
  clear t0 t1
  obtain ⟨t0, t1, _, _, _⟩ := T2.out
  go_wp2
  go_returns
  exact ⟨rfl, S.out.1⟩
set_option maxHeartbeats 16000000 in
set_option maxRecDepth 100000 in
theorem goBTG (a : Option Addr) (n cap : Nat) (wd st : Int) (V1 lo1 hi1 : Int) (X : Int) (lo Z : Int) (l : List (Int × Int)) (w : World) (NV : Hid (Pts w (.slice a n cap) l)) (hf : fwB l.length = true) (m1 : (hi1 != hi1) = false) (m2 : decide (st < lo1) = false) (m3 : decide (hi1 < st) = false) (z1 : decide ((10000 : Int) < 0) = false) (z2 : decide ((10000 : Int) < 10000) = false) (z3 : decide (X < wd) = false) (z4 : decide ((10000 : Int) < 10000) = false) (z8 : ((10000 : Int) == 10000) = true) (z9 : (wd == wd) = true) (z10 : (lo == 0) = false) (z11 : IntKind.i64.wrap (lo - 1) = lo - 1) (z12 : decide (wd < Z) = true)
    (C1 : Hid (∀ W, Pts W (.slice a n cap) l → Calls Try.prog 17 #[.slice a n cap, .int .i64 st] W fun e w' => e = .returned (.tuple #[.int .i64 V1, .int .i64 0]) ∧ Below W.heap.size W w'))
    (C2 : Hid (∀ W, Pts W (.slice a n cap) l → Calls Try.prog 19 #[.slice a n cap, .int .i64 V1] W fun e w' => e = .returned (.tuple #[.int .i64 hi1, .int .i64 0]) ∧ Below W.heap.size W w'))
    (C3 : Hid (∀ W, Pts W (.slice a n cap) l → Calls Try.prog 21 #[.slice a n cap, .int .i64 V1] W fun e w' => e = .returned (.tuple #[.agg #[.int .i64 lo1, .int .i64 hi1], .int .i64 0]) ∧ Below W.heap.size W w'))
    (C5 : Hid (∀ W, Pts W (.slice a n cap) l → Calls Try.prog 17 #[.slice a n cap, .int .i64 10000] W fun e w' => e = .returned (.tuple #[.int .i64 X, .int .i64 0]) ∧ Below W.heap.size W w'))
    (C7 : Hid (∀ W, Pts W (.slice a n cap) l → Calls Try.prog 17 #[.slice a n cap, .int .i64 lo] W fun e w' => e = .returned (.tuple #[.int .i64 wd, .int .i64 0]) ∧ Below W.heap.size W w'))
    (C8 : Hid (∀ W, Pts W (.slice a n cap) l → Calls Try.prog 17 #[.slice a n cap, .int .i64 (lo - 1)] W fun e w' => e = .returned (.tuple #[.int .i64 Z, .int .i64 0]) ∧ Below W.heap.size W w'))
    (C9 : Hid (∀ W, Pts W (.slice a n cap) l → Calls Try.prog 21 #[.slice a n cap, .int .i64 wd] W fun e w' => e = .returned (.tuple #[.agg #[.int .i64 lo, .int .i64 10000], .int .i64 0]) ∧ Below W.heap.size W w'))
    (C4 : Hid (∀ W, Pts W (.slice a n cap) l → Calls Try.prog 19 #[.slice a n cap, .int .i64 wd] W fun e w' => e = .returned (.tuple #[.int .i64 10000, .int .i64 0]) ∧ Below W.heap.size W w')) :
    Calls Try.prog 7 #[.slice a n cap, .int .i64 wd, .int .i64 st] w fun e w' => e = .returned (.bool true) ∧ Below w.heap.size w w' := by
  have HA := Lib.hid (fun W => awakeI_any W)
  have FW := Lib.hid (fun v W h => few_any v l W h)
  rw [hf] at FW
  have hmf : ∀ (fn : Fn) (first cap : Array Value) (w : World), (Instr.makeFunc fn first cap).run Try.prog w = .ok (.func fn first cap) w := fun _ _ _ _ => rfl
  have eg : ∀ args w, (callFunc 31 args).run Try.prog w = .ok (.enter 31 args) w := enters_of Try.func31 (by kernel_rfl) rfl
  have S := Lib.hid (US.init NV.out)
  have c0 := S.out.2.1.cell
  clear NV
  go_enter Try.func7, Try.ntmps7
  go_wp2_with fail
  refine (HA.out _).mono ?_
  rintro e w1 ⟨rfl, h1⟩
  replace S := Lib.hid (S.out.below h1)
  clear h1 c0
  have c0 := S.out.2.1.cell
  go_wp2_with fail
  refine (FW.out _ _ S.out.2.2).mono ?_
  rintro e w90 ⟨rfl, hw⟩
  subst hw
  go_wp2_with fail
  refine (C1.out _ S.out.2.2).mono ?_
  rintro e w2 ⟨rfl, h1⟩
  replace S := Lib.hid (S.out.below h1)
  clear h1 c0
  have c0 := S.out.2.1.cell
  go_wp2_with fail
  refine (C2.out _ S.out.2.2).mono ?_
  rintro e w3 ⟨rfl, h1⟩
  replace S := Lib.hid (S.out.below h1)
  clear h1 c0
  have c0 := S.out.2.1.cell
  go_wp2_with fail
  refine (C3.out _ S.out.2.2).mono ?_
  rintro e w4 ⟨rfl, h1⟩
  replace S := Lib.hid ((S.out.below h1).alloc (.cells #[.int .i64 lo1, .int .i64 hi1] 29))
  have T1 := Lib.hid (Two.new w4 (.int .i64 lo1) (.int .i64 hi1) 29)
  clear h1 c0
  have c0 := S.out.2.1.cell
  obtain ⟨t0, t1, _, _, _⟩ := T1.out
  clear T1
  go_wp2_with fail
  refine (C4.out _ S.out.2.2).mono ?_
  rintro e w5 ⟨rfl, h1⟩
  replace S := Lib.hid (S.out.below h1)
  clear h1 c0
  have c0 := S.out.2.1.cell
  go_wp2_with fail
  refine (clo _ _ _ _ _ _ _ l _ c0 (Lib.hid (C5.out _ S.out.2.2))).mono ?_
  rintro e w60 ⟨rfl, h1⟩
  replace S := Lib.hid (S.out.below h1)
  clear h1 c0
  have c0 := S.out.2.1.cell
  go_wp2_with fail
  refine (C9.out _ S.out.2.2).mono ?_
  rintro e w9 ⟨rfl, h1⟩
  replace S := Lib.hid ((S.out.below h1).alloc (.cells #[.int .i64 lo, .int .i64 10000] 29))
  have T2 := Lib.hid (Two.new w9 (.int .i64 lo) (.int .i64 10000) 29)
  clear h1 c0
  have c0 := S.out.2.1.cell
  obtain ⟨t0, t1, _, _, _⟩ := T2.out
  go_wp2_with fail
  refine (clo _ _ _ _ _ _ _ l _ c0 (Lib.hid (C7.out _ S.out.2.2))).mono ?_
  rintro e w72 ⟨rfl, h1⟩
  replace S := Lib.hid (S.out.below h1)
  replace T2 := Lib.hid (T2.out.below h1)
  clear h1 c0
  have c0 := S.out.2.1.cell
  clear t0 t1
  obtain ⟨t0, t1, _, _, _⟩ := T2.out
  go_wp2_with fail
  refine (clo _ _ _ _ _ _ _ l _ c0 (Lib.hid (C8.out _ S.out.2.2))).mono ?_
  rintro e w73 ⟨rfl, h1⟩
  replace S := Lib.hid (S.out.below h1)
  replace T2 := Lib.hid (T2.out.below h1)
  clear h1 c0
  have c0 := S.out.2.1.cell
  clear t0 t1
  obtain ⟨t0, t1, _, _, _⟩ := T2.out
  go_wp2
  go_returns
  exact ⟨rfl, S.out.1⟩
theorem den_in (a : Option Addr) (cap : Nat) {l : List (Int × Int)} (hD : DR l) {i : Int} (h0 : 0 ≤ i) (h1 : i ≤ 10000) : Hid (∀ W, Pts W (.slice a l.length cap) l → Calls Try.prog 17 #[.slice a l.length cap, .int .i64 i] W fun e w' => e = .returned (.tuple #[.int .i64 (atD l i), .int .i64 0]) ∧ Below W.heap.size W w') := Lib.hid fun W h => by
  have := itDen_any (.slice a l.length cap) l i W h
  have e := denE_zero.2 ⟨hD, h0, h1⟩
  rwa [denV_ok e, e] at this
theorem walk (v : Value) (l : List (Int × Int)) (wd st : Int) (w : World) (hv : Pts w v l) (_ : -9223372036854775808 ≤ wd ∧ wd ≤ 9223372036854775807) (_ : -9223372036854775808 ≤ st ∧ st ≤ 9223372036854775807) :
    Calls Try.prog 7 #[v, .int .i64 wd, .int .i64 st] w fun e w' => e = .returned (.bool true) ∧ Below w.heap.size w w' := by
  have hv2 := Lib.hid hv
  obtain ⟨a, cap, rfl, _, _⟩ := hv.shape
  cases h : fwB l.length with
  | false => exact long a l.length cap wd st l w hv2 h
  | true =>
    have C4 := fun W h => itSt_any (.slice a l.length cap) l wd W h
    by_cases e1 : denE l st = 0
    · obtain ⟨hD, a0, a1⟩ := denE_zero.1 e1
      have C1 := den_in a cap hD a0 a1
      have C2 := fun W h => itSt_any (.slice a l.length cap) l (atD l st) W h
      have C3 := fun W h => itRg_any (.slice a l.length cap) l (atD l st) W h
      have bd := atD_bd hD a0 a1
      have an := atD_anti hD (Int.le_refl 0) a1 a0
      obtain ⟨u0, u1, u2⟩ := blN_spec hD (atD l st)
      obtain ⟨_, x1, x2⟩ := blN_spec hD (atD l st + 1)
      have lt1 : st < (blN l (atD l st) : Int) := by
        rcases Int.lt_or_le st (blN l (atD l st) : Int) with g | g
        · exact g
        · have := u2 st g a1; omega
      have le1 : (blN l (atD l st + 1) : Int) ≤ st := by
        rcases Int.lt_or_le st (blN l (atD l st + 1) : Int) with g | g
        · have := x1 st a0 g; omega
        · exact g
      have e2 : itsE l (atD l st) = 0 := itsE_zero.2 ⟨hD, by omega, an⟩
      have e3 : rgeE l (atD l st) = 0 := rgeE_zero.2 ⟨hD, by omega, by omega⟩
      rw [show itsV l (atD l st) = (blN l (atD l st) : Int) - 1 by unfold itsV; rw [if_pos e2], e2] at C2
      rw [show rgeL l (atD l st) = (blN l (atD l st + 1) : Int) by unfold rgeL; rw [if_pos e3], show rgeH l (atD l st) = (blN l (atD l st) : Int) - 1 by unfold rgeH; rw [if_pos e3], e3] at C3
      have m1 : (((blN l (atD l st) : Int) - 1) != ((blN l (atD l st) : Int) - 1)) = false := by simp
      have m2 : decide (st < (blN l (atD l st + 1) : Int)) = false := decide_eq_false (by omega)
      have m3 : decide ((blN l (atD l st) : Int) - 1 < st) = false := decide_eq_false (by omega)
      clear u0 u1 u2 x1 x2 an bd lt1 le1
      by_cases e4 : itsE l wd = 0
      · obtain ⟨hD, bw, w0⟩ := itsE_zero.1 e4
        obtain ⟨p0, p1, p2⟩ := blN_spec hD wd
        obtain ⟨_, q1, q2⟩ := blN_spec hD (wd + 1)
        have C9 := fun W h => itRg_any (.slice a l.length cap) l wd W h
        obtain ⟨s, es⟩ : ∃ s : Int, s = (blN l wd : Int) - 1 := ⟨_, rfl⟩
        obtain ⟨lo, el⟩ : ∃ lo : Int, lo = (blN l (wd + 1) : Int) := ⟨_, rfl⟩
        rw [show itsV l wd = s by unfold itsV; rw [if_pos e4, es], e4] at C4
        have s0 : 0 ≤ s := by
          rcases Nat.eq_zero_or_pos (blN l wd) with g | g
          · have := p2 0 (by omega) (by omega); omega
          · omega
        have s1 : s ≤ 10000 := by omega
        have p3 := p1 s s0 (by omega)
        have C5 := den_in a cap hD s0 s1
        have lo0 : 0 ≤ lo := by omega
        by_cases e9 : rgeE l wd = 0
        · have l1 := (rgeE_zero.1 e9).2.2
          rw [← el, ← es] at l1
          rw [show rgeL l wd = lo by unfold rgeL; rw [if_pos e9, el], show rgeH l wd = s by unfold rgeH; rw [if_pos e9, es], e9] at C9
          have C7 := den_in a cap hD lo0 (by omega)
          have q3 := p1 lo lo0 (by omega)
          have q4 := q2 lo (by omega) (by omega)
          rw [show atD l lo = wd by omega] at C7
          have q5 : 0 < lo → wd < atD l (lo - 1) := fun g => by have := q1 (lo - 1) (by omega) (by omega); omega
          by_cases top : s = 10000
          · subst top
            by_cases lz : lo = 0
            · subst lz
              exact goBTL a l.length cap wd st _ _ _ (atD l 10000) l w hv2 h m1 m2 m3 (decide_eq_false (by omega)) (decide_eq_false (by omega)) (decide_eq_false (by omega)) (decide_eq_false (by omega)) (beq_self_eq_true _) (beq_self_eq_true _) (beq_self_eq_true _) C1 (Lib.hid C2) (Lib.hid C3) C5 C7 (Lib.hid C9) (Lib.hid C4)
            · have q5 := q5 (by omega)
              have C8 := den_in a cap hD (show 0 ≤ lo - 1 by omega) (by omega)
              exact goBTG a l.length cap wd st _ _ _ (atD l 10000) lo (atD l (lo - 1)) l w hv2 h m1 m2 m3 (decide_eq_false (by omega)) (decide_eq_false (by omega)) (decide_eq_false (by omega)) (decide_eq_false (by omega)) (beq_self_eq_true _) (beq_self_eq_true _) (beq_eq_false_iff_ne.2 (by omega)) (wrap_in _ ⟨by omega, by omega⟩) (decide_eq_true (by omega)) C1 (Lib.hid C2) (Lib.hid C3) C5 C7 C8 (Lib.hid C9) (Lib.hid C4)
          · have C6 := den_in a cap hD (show 0 ≤ s + 1 by omega) (by omega)
            have p4 := p2 (s + 1) (by omega) (by omega)
            by_cases lz : lo = 0
            · subst lz
              exact goBSL a l.length cap wd st _ _ _ (atD l s) s (atD l (s + 1)) l w hv2 h m1 m2 m3 (decide_eq_false (by omega)) (decide_eq_false (by omega)) (decide_eq_false (by omega)) (decide_eq_true (by omega)) (wrap_in _ ⟨by omega, by omega⟩) (decide_eq_false (by omega)) (beq_self_eq_true _) (beq_self_eq_true _) (beq_self_eq_true _) C1 (Lib.hid C2) (Lib.hid C3) C5 C6 C7 (Lib.hid C9) (Lib.hid C4)
            · have q5 := q5 (by omega)
              have C8 := den_in a cap hD (show 0 ≤ lo - 1 by omega) (by omega)
              exact goBSG a l.length cap wd st _ _ _ (atD l s) s (atD l (s + 1)) lo (atD l (lo - 1)) l w hv2 h m1 m2 m3 (decide_eq_false (by omega)) (decide_eq_false (by omega)) (decide_eq_false (by omega)) (decide_eq_true (by omega)) (wrap_in _ ⟨by omega, by omega⟩) (decide_eq_false (by omega)) (beq_self_eq_true _) (beq_self_eq_true _) (beq_eq_false_iff_ne.2 (by omega)) (wrap_in _ ⟨by omega, by omega⟩) (decide_eq_true (by omega)) C1 (Lib.hid C2) (Lib.hid C3) C5 C6 C7 C8 (Lib.hid C9) (Lib.hid C4)
        · have l1 : s < lo := by
            rcases Int.lt_or_le s lo with g | g
            · exact g
            · exact absurd (rgeE_zero.2 ⟨hD, bw, by omega⟩) e9
          have e7 : rgeE l wd = 7 := by unfold rgeE; rw [if_neg (by have := dnE_zero.2 hD; omega), if_pos bw, if_pos (by omega)]
          have p5 := q1 s s0 (by omega)
          have ne : atD l s ≠ wd := by omega
          rw [show rgeL l wd = 0 by unfold rgeL; rw [if_neg e9], show rgeH l wd = 0 by unfold rgeH; rw [if_neg e9], e7] at C9
          by_cases top : s = 10000
          · subst top
            exact goBT7 a l.length cap wd st _ _ _ (atD l 10000) l w hv2 h m1 m2 m3 (decide_eq_false (by omega)) (decide_eq_false (by omega)) (decide_eq_false (by omega)) (decide_eq_false (by omega)) (bne_iff_ne.2 ne) C1 (Lib.hid C2) (Lib.hid C3) C5 (Lib.hid C9) (Lib.hid C4)
          · have C6 := den_in a cap hD (show 0 ≤ s + 1 by omega) (by omega)
            have p4 := p2 (s + 1) (by omega) (by omega)
            exact goBS7 a l.length cap wd st _ _ _ (atD l s) s (atD l (s + 1)) l w hv2 h m1 m2 m3 (decide_eq_false (by omega)) (decide_eq_false (by omega)) (decide_eq_false (by omega)) (decide_eq_true (by omega)) (wrap_in _ ⟨by omega, by omega⟩) (decide_eq_false (by omega)) (bne_iff_ne.2 ne) C1 (Lib.hid C2) (Lib.hid C3) C5 C6 (Lib.hid C9) (Lib.hid C4)
      · rw [show itsV l wd = 0 by unfold itsV; rw [if_neg e4]] at C4
        exact noneB a l.length cap wd st _ _ _ _ l w hv2 h m1 m2 m3 (by simpa using e4) C1 (Lib.hid C2) (Lib.hid C3) (Lib.hid C4)
    · have C1 := fun W h => itDen_any (.slice a l.length cap) l st W h
      have n1 : (denE l st == 0) = false := by simpa using e1
      by_cases e4 : itsE l wd = 0
      · obtain ⟨hD, bw, w0⟩ := itsE_zero.1 e4
        obtain ⟨p0, p1, p2⟩ := blN_spec hD wd
        obtain ⟨_, q1, q2⟩ := blN_spec hD (wd + 1)
        have C9 := fun W h => itRg_any (.slice a l.length cap) l wd W h
        obtain ⟨s, es⟩ : ∃ s : Int, s = (blN l wd : Int) - 1 := ⟨_, rfl⟩
        obtain ⟨lo, el⟩ : ∃ lo : Int, lo = (blN l (wd + 1) : Int) := ⟨_, rfl⟩
        rw [show itsV l wd = s by unfold itsV; rw [if_pos e4, es], e4] at C4
        have s0 : 0 ≤ s := by
          rcases Nat.eq_zero_or_pos (blN l wd) with g | g
          · have := p2 0 (by omega) (by omega); omega
          · omega
        have s1 : s ≤ 10000 := by omega
        have p3 := p1 s s0 (by omega)
        have C5 := den_in a cap hD s0 s1
        have lo0 : 0 ≤ lo := by omega
        by_cases e9 : rgeE l wd = 0
        · have l1 := (rgeE_zero.1 e9).2.2
          rw [← el, ← es] at l1
          rw [show rgeL l wd = lo by unfold rgeL; rw [if_pos e9, el], show rgeH l wd = s by unfold rgeH; rw [if_pos e9, es], e9] at C9
          have C7 := den_in a cap hD lo0 (by omega)
          have q3 := p1 lo lo0 (by omega)
          have q4 := q2 lo (by omega) (by omega)
          rw [show atD l lo = wd by omega] at C7
          have q5 : 0 < lo → wd < atD l (lo - 1) := fun g => by have := q1 (lo - 1) (by omega) (by omega); omega
          by_cases top : s = 10000
          · subst top
            by_cases lz : lo = 0
            · subst lz
              exact goATL a l.length cap wd st _ _ (atD l 10000) l w hv2 h n1 (decide_eq_false (by omega)) (decide_eq_false (by omega)) (decide_eq_false (by omega)) (decide_eq_false (by omega)) (beq_self_eq_true _) (beq_self_eq_true _) (beq_self_eq_true _) (Lib.hid C1) C5 C7 (Lib.hid C9) (Lib.hid C4)
            · have q5 := q5 (by omega)
              have C8 := den_in a cap hD (show 0 ≤ lo - 1 by omega) (by omega)
              exact goATG a l.length cap wd st _ _ (atD l 10000) lo (atD l (lo - 1)) l w hv2 h n1 (decide_eq_false (by omega)) (decide_eq_false (by omega)) (decide_eq_false (by omega)) (decide_eq_false (by omega)) (beq_self_eq_true _) (beq_self_eq_true _) (beq_eq_false_iff_ne.2 (by omega)) (wrap_in _ ⟨by omega, by omega⟩) (decide_eq_true (by omega)) (Lib.hid C1) C5 C7 C8 (Lib.hid C9) (Lib.hid C4)
          · have C6 := den_in a cap hD (show 0 ≤ s + 1 by omega) (by omega)
            have p4 := p2 (s + 1) (by omega) (by omega)
            by_cases lz : lo = 0
            · subst lz
              exact goASL a l.length cap wd st _ _ (atD l s) s (atD l (s + 1)) l w hv2 h n1 (decide_eq_false (by omega)) (decide_eq_false (by omega)) (decide_eq_false (by omega)) (decide_eq_true (by omega)) (wrap_in _ ⟨by omega, by omega⟩) (decide_eq_false (by omega)) (beq_self_eq_true _) (beq_self_eq_true _) (beq_self_eq_true _) (Lib.hid C1) C5 C6 C7 (Lib.hid C9) (Lib.hid C4)
            · have q5 := q5 (by omega)
              have C8 := den_in a cap hD (show 0 ≤ lo - 1 by omega) (by omega)
              exact goASG a l.length cap wd st _ _ (atD l s) s (atD l (s + 1)) lo (atD l (lo - 1)) l w hv2 h n1 (decide_eq_false (by omega)) (decide_eq_false (by omega)) (decide_eq_false (by omega)) (decide_eq_true (by omega)) (wrap_in _ ⟨by omega, by omega⟩) (decide_eq_false (by omega)) (beq_self_eq_true _) (beq_self_eq_true _) (beq_eq_false_iff_ne.2 (by omega)) (wrap_in _ ⟨by omega, by omega⟩) (decide_eq_true (by omega)) (Lib.hid C1) C5 C6 C7 C8 (Lib.hid C9) (Lib.hid C4)
        · have l1 : s < lo := by
            rcases Int.lt_or_le s lo with g | g
            · exact g
            · exact absurd (rgeE_zero.2 ⟨hD, bw, by omega⟩) e9
          have e7 : rgeE l wd = 7 := by unfold rgeE; rw [if_neg (by have := dnE_zero.2 hD; omega), if_pos bw, if_pos (by omega)]
          have p5 := q1 s s0 (by omega)
          have ne : atD l s ≠ wd := by omega
          rw [show rgeL l wd = 0 by unfold rgeL; rw [if_neg e9], show rgeH l wd = 0 by unfold rgeH; rw [if_neg e9], e7] at C9
          by_cases top : s = 10000
          · subst top
            exact goAT7 a l.length cap wd st _ _ (atD l 10000) l w hv2 h n1 (decide_eq_false (by omega)) (decide_eq_false (by omega)) (decide_eq_false (by omega)) (decide_eq_false (by omega)) (bne_iff_ne.2 ne) (Lib.hid C1) C5 (Lib.hid C9) (Lib.hid C4)
          · have C6 := den_in a cap hD (show 0 ≤ s + 1 by omega) (by omega)
            have p4 := p2 (s + 1) (by omega) (by omega)
            exact goAS7 a l.length cap wd st _ _ (atD l s) s (atD l (s + 1)) l w hv2 h n1 (decide_eq_false (by omega)) (decide_eq_false (by omega)) (decide_eq_false (by omega)) (decide_eq_true (by omega)) (wrap_in _ ⟨by omega, by omega⟩) (decide_eq_false (by omega)) (bne_iff_ne.2 ne) (Lib.hid C1) C5 C6 (Lib.hid C9) (Lib.hid C4)
      · rw [show itsV l wd = 0 by unfold itsV; rw [if_neg e4]] at C4
        exact noneA a l.length cap wd st _ _ _ l w hv2 h n1 (by simpa using e4) (Lib.hid C1) (Lib.hid C4)

set_option maxRecDepth 100000 in
theorem lifted (os : Os) (started : os.Started) (H : Type) (enc : TypeId × Value → H) :
    ReturnsInHanded {} Try.checked os 7 .any (Rows.interpolateUndoesSpec.pre6 enc Try.prog Try.f7 Rows.interpolateUndoesRow.domain false) (Rows.interpolateUndoesSpec.post enc Try.prog Try.f7 false true false false) := by
  refine returnsInHanded_of_change (C := Try.checked) own started (by kernel_rfl) Try.func7
    (ChangeSpec.witness6 (enc := enc) (C := Try.checked) false ⟨#[], #[.slice none 0 0, .int .i64 0, .int .i64 0], []⟩ 8 (by kernel_rfl) (by kernel_rfl) (by kernel_rfl) (by kernel_rfl)) ?_
  intro W base args ds gs before hval0 hW hcnd _
  have hval : ∀ (j : Nat) t v, Try.f7.params[j]? = some t → args[j]? = some v → Value.okWide Try.prog W .any base t v := hval0
  clear hval0
  have hW' := hW
  obtain ⟨p, q, hA0, hV, rfl, hfz, hnd⟩ := hW
  have hA : DataW.TrodAll enc Try.prog W 0 (fun _ => true) true Try.f7.params.toList args.toList ds p := hA0
  rw [Try.params7] at hA hval
  obtain ⟨v0, vs0, d0, ds0, p0, q0, hargs, rfl, rfl, h0, r0⟩ := trodAll_cons hA
  obtain ⟨v1, vs1, d1, ds1, p1, q1, rfl, rfl, rfl, h1, r1⟩ := trodAll_cons r0
  obtain ⟨v2, vs2, d2, ds2, p2, q2, rfl, rfl, rfl, h2, r2⟩ := trodAll_cons r1
  obtain ⟨rfl, rfl, rfl⟩ := trodAll_nil r2
  obtain rfl : args = #[v0, v1, v2] := by cases args; simp_all
  obtain ⟨rfl, rfl⟩ := trodVars_none hV
  have k0 := h0
  have lt0 : ∀ x ∈ p0, x.block < W.heap.size := by obtain ⟨m, hm⟩ := k0; exact DataW.trod_lt m _ _ _ hm
  have k1 := h1
  have lt1 : ∀ x ∈ p1, x.block < W.heap.size := by obtain ⟨m, hm⟩ := k1; exact DataW.trod_lt m _ _ _ hm
  have k2 := h2
  have lt2 : ∀ x ∈ p2, x.block < W.heap.size := by obtain ⟨m, hm⟩ := k2; exact DataW.trod_lt m _ _ _ hm
  obtain ⟨z0, w0⟩ := open_pts (hval 0 22 v0 rfl rfl) h0
  obtain ⟨a1, rfl, rfl, rfl, w1⟩ := open_int Try.underlying3 (hval 1 3 v1 rfl rfl) h1
  obtain ⟨a2, rfl, rfl, rfl, w2⟩ := open_int Try.underlying3 (hval 2 3 v2 rfl rfl) h2
  clear hA0
  refine (walk v0 z0 a1 a2 W w0 (wf_bd w1) (wf_bd w2)).mono fun e W' ⟨he, bel⟩ => ?_
  subst he
  exact ⟨_, rfl, _, _, _, [], _, [], hW', trodAll_mk1 (shut_bool Try.underlying4 _), (trodAll_cons_mk (Below.trod laidOut (by kernel_rfl) (of_decide_eq_true (by kernel_rfl)) k0 bel lt0) (trodAll_cons_mk (Below.trod laidOut (by kernel_rfl) (of_decide_eq_true (by kernel_rfl)) k1 bel lt1) (trodAll_cons_mk (Below.trod laidOut (by kernel_rfl) (of_decide_eq_true (by kernel_rfl)) k2 bel lt2) trodAll_mk0))), rfl, bel.frame _, fun h => by cases h⟩

theorem over : Rows.interpolateUndoesRow.holds Try.pinned (OpenSpec.ofChange Rows.interpolateUndoesSpec) :=
  OpenClaim.holds_of_wide 7 Try.f7 rfl rfl rfl rfl rfl rfl rfl ⟨rfl, rfl, rfl, rfl, rfl⟩ rfl rfl rfl rfl rfl (by kernel_rfl) Try.func7 (by kernel_rfl)
    (of_decide_eq_true (by kernel_rfl)) (by unfold Func.isWrapper; first | (rw [if_pos (by decide +kernel)]; kernel_rfl) | (rw [if_neg (by decide +kernel)]; exact ⟨rfl, rfl⟩))
    (fun os started H enc _ => lifted os started H enc)

theorem proved : Rows.InterpolateUndoesSaid := over
#print axioms proved
end Go.Proofs.Ytadkhhkoankhnaa.interpolateUndoes
