/-
  The statement AlcoholShows of spile/spilelaw20 holds: for every input the call returns true, and each argument reads afterwards as it read before.
-/
import Derived.Test.YtadkhhkoankhnaaM1
import Derived.Below
import Derived.Carry
set_option linter.unusedVariables false
set_option linter.unusedSimpArgs false
namespace Go.Proofs.Ytadkhhkoankhnaa.alcoholShows
open Go.ChangeShapes Go.WideShapes Go.ChangeAt Go.RowKit
open Go.ChangeMaps (open_string shut_string)
set_option linter.unusedVariables false

theorem shows {l : List (Int × Int)} (h : DR l) {x s : Int} (hx : 0 ≤ x ∧ x ≤ 1073741824) (hs : 0 ≤ s ∧ s ≤ 10000) :
    LR l (x * s) (x * atD l s) ∧ (x ≠ 0 → (sgN l (x * s) (x * atD l s) : Int) = s) ∧ vlN l (x * s) (x * atD l s) = x := by
  have b := (atD_bd h hs.1 hs.2).2.2
  have tb := atD_anti h hs.1 (Int.le_refl 10000) hs.2
  have t0 := (atD_bd h (s := 10000) (by omega) (by omega)).2.2
  have p0 : 0 ≤ x * s := Int.mul_nonneg hx.1 hs.1
  have p1 : x * s ≤ 1073741824 * 10000 := Int.mul_le_mul hx.2 hs.2 hs.1 (by omega)
  have p2 : 0 ≤ x * atD l s := Int.mul_nonneg hx.1 (by omega)
  have p3 : x * atD l s ≤ 1073741824 * 120000 := Int.mul_le_mul hx.2 b.2 (by omega) (by omega)
  have p4 : s * atD l 10000 ≤ 10000 * atD l s := Int.mul_le_mul hs.2 tb (by omega) (by omega)
  have p5 := Int.mul_le_mul_of_nonneg_left p4 hx.1
  have g : LR l (x * s) (x * atD l s) := ⟨p0, by omega, p2, by omega, by
    rw [Int.mul_assoc x s, Int.mul_assoc x (atD l s), Int.mul_comm (atD l s) 10000]; exact p5⟩
  have hd : atD l s ≠ 0 := by omega
  by_cases z : x = 0
  · subst z
    refine ⟨g, fun k => absurd rfl k, ?_⟩
    unfold vlN
    rw [Int.zero_mul, Int.zero_mul, Int.zero_ediv]
  · have hm : x * atD l s ≠ 0 := Int.mul_ne_zero z hd
    have e : sgN l (x * s) (x * atD l s) = s.toNat := by
      refine sgN_is h g hm (by omega) ?_ (fun hk => ?_)
      · rw [Int.toNat_of_nonneg hs.1, Int.mul_assoc, Int.mul_assoc, Int.mul_comm s]; exact Int.le_refl _
      · rw [Int.toNat_of_nonneg hs.1]
        have q := atD_anti h hs.1 (t := s + 1) (by omega) (by omega)
        have q1 := Int.mul_le_mul_of_nonneg_left q hs.1
        have q2 : s * atD l (s + 1) < atD l s * (s + 1) := by rw [Int.mul_add, Int.mul_comm (atD l s) s]; omega
        have q3 := Int.mul_lt_mul_of_pos_left q2 (show 0 < x by omega)
        rw [Int.mul_assoc, Int.mul_assoc]; exact q3
    have e2 : (sgN l (x * s) (x * atD l s) : Int) = s := by rw [e, Int.toNat_of_nonneg hs.1]
    refine ⟨g, fun _ => e2, ?_⟩
    unfold vlN
    rw [e2, Int.mul_ediv_cancel _ hd]
set_option maxHeartbeats 8000000 in
set_option maxRecDepth 100000 in
theorem long (a : Option Addr) (n cap : Nat) (x s : Int) (l : List (Int × Int)) (w : World) (NV : Hid (Pts w (.slice a n cap) l)) (hf : fwB l.length = false) :
    Calls Try.prog 11 #[.slice a n cap, .int .i64 x, .int .i64 s] w fun e w' => e = .returned (.bool true) ∧ Below w.heap.size w w' := by
  have HA := Lib.hid (fun W => awakeA_any W)
  have FW := Lib.hid (fun v W h => few_any v l W h)
  rw [hf] at FW
  have HB := Lib.hid (Below.refl w.heap.size w)
  go_enter Try.func11, Try.ntmps11
  go_wp2_with fail
  refine (HA.out _).mono ?_
  rintro e w3 ⟨rfl, h1⟩
  replace NV := Lib.hid (NV.out.below h1)
  replace HB := Lib.hid (bel_trans HB.out h1); clear h1
  go_wp2_with fail
  refine (FW.out _ _ NV.out).mono ?_
  rintro e w90 ⟨rfl, hw⟩
  subst hw
  go_wp2
  go_returns
  exact ⟨rfl, HB.out⟩
set_option maxHeartbeats 8000000 in
set_option maxRecDepth 100000 in
theorem bad (a : Option Addr) (n cap : Nat) (x s E : Int) (l : List (Int × Int)) (w : World) (NV : Hid (Pts w (.slice a n cap) l)) (hf : fwB l.length = true) (hE : (E != 0) = true)
    (C1 : Hid (∀ W, Pts W (.slice a n cap) l → Calls Try.prog 34 #[.slice a n cap, .int .i64 x, .int .i64 s] W fun e w' => e = .returned (.tuple #[.agg #[.int .i64 0, .int .i64 0], .int .i64 E]) ∧ Below W.heap.size W w')) :
    Calls Try.prog 11 #[.slice a n cap, .int .i64 x, .int .i64 s] w fun e w' => e = .returned (.bool true) ∧ Below w.heap.size w w' := by
  have q1 : ∀ W, (binOp .eql 47 (.agg #[.int .i64 0, .int .i64 0]) (.agg #[.int .i64 0, .int .i64 0])).run Try.prog W = .ok (.bool true) W := fun W => by rw [run_eql_liq]; rfl
  have HA := Lib.hid (fun W => awakeA_any W)
  have FW := Lib.hid (fun v W h => few_any v l W h)
  rw [hf] at FW
  have HB := Lib.hid (Below.refl w.heap.size w)
  go_enter Try.func11, Try.ntmps11
  go_wp2_with fail
  refine (HA.out _).mono ?_
  rintro e w6 ⟨rfl, h1⟩
  replace NV := Lib.hid (NV.out.below h1)
  replace HB := Lib.hid (bel_trans HB.out h1); clear h1
  go_wp2_with fail
  refine (FW.out _ _ NV.out).mono ?_
  rintro e w90 ⟨rfl, hw⟩
  subst hw
  go_wp2_with fail
  refine (C1.out _ NV.out).mono ?_
  rintro e w8 ⟨rfl, h1⟩
  replace NV := Lib.hid ((NV.out.below h1).alloc (.cells #[.int .i64 0, .int .i64 0] 47))
  replace HB := Lib.hid ((bel_trans HB.out h1).alloc (bel_trans HB.out h1).size (.cells #[.int .i64 0, .int .i64 0] 47)); clear h1
  have T1 := Lib.hid (Two.new w8 (.int .i64 0) (.int .i64 0) 47)
  obtain ⟨T10, T11, T12, T13, T14⟩ := T1.out
  go_wp2
  go_returns
  exact ⟨rfl, HB.out⟩
set_option maxHeartbeats 16000000 in
set_option maxRecDepth 100000 in
theorem good (a : Option Addr) (n cap : Nat) (x s A M S : Int) (l : List (Int × Int)) (w : World) (NV : Hid (Pts w (.slice a n cap) l)) (hf : fwB l.length = true) (hS : S = s ∨ x = 0 ∧ S = 0)
    (C1 : Hid (∀ W, Pts W (.slice a n cap) l → Calls Try.prog 34 #[.slice a n cap, .int .i64 x, .int .i64 s] W fun e w' => e = .returned (.tuple #[.agg #[.int .i64 A, .int .i64 M], .int .i64 0]) ∧ Below W.heap.size W w'))
    (C2 : Hid (∀ W, Pts W (.slice a n cap) l → Calls Try.prog 36 #[.slice a n cap, .agg #[.int .i64 A, .int .i64 M]] W fun e w' => e = .returned (.int .i64 0) ∧ Below W.heap.size W w'))
    (C3 : Hid (∀ W, Pts W (.slice a n cap) l → Calls Try.prog 38 #[.slice a n cap, .agg #[.int .i64 A, .int .i64 M]] W fun e w' => e = .returned (.tuple #[.int .i64 S, .int .i64 0]) ∧ Below W.heap.size W w'))
    (C4 : Hid (∀ W, Pts W (.slice a n cap) l → Calls Try.prog 40 #[.slice a n cap, .agg #[.int .i64 A, .int .i64 M]] W fun e w' => e = .returned (.tuple #[.int .i64 x, .int .i64 0]) ∧ Below W.heap.size W w'))
    (C5 : Hid (∀ W, Pts W (.slice a n cap) l → Calls Try.prog 42 #[.slice a n cap, .agg #[.int .i64 A, .int .i64 M], .int .i64 x] W fun e w' => e = .returned (.tuple #[.int .i64 M, .int .i64 0]) ∧ Below W.heap.size W w'))
    (C6 : Hid (∀ W, Pts W (.slice a n cap) l → Calls Try.prog 44 #[.slice a n cap, .agg #[.int .i64 A, .int .i64 M]] W fun e w' => e = .returned (.tuple #[.int .i64 0, .int .i64 0]) ∧ Below W.heap.size W w')) :
    Calls Try.prog 11 #[.slice a n cap, .int .i64 x, .int .i64 s] w fun e w' => e = .returned (.bool true) ∧ Below w.heap.size w w' := by
  rcases hS with rfl | ⟨rfl, rfl⟩
  · have d1 : (x == x) = true := by simp
    have HA := Lib.hid (fun W => awakeA_any W)
    have FW := Lib.hid (fun v W h => few_any v l W h)
    rw [hf] at FW
    have HB := Lib.hid (Below.refl w.heap.size w)
    go_enter Try.func11, Try.ntmps11
    go_wp2_with fail
    refine (HA.out _).mono ?_
    rintro e w12 ⟨rfl, h1⟩
    replace NV := Lib.hid (NV.out.below h1)
    replace HB := Lib.hid (bel_trans HB.out h1); clear h1
    go_wp2_with fail
    refine (FW.out _ _ NV.out).mono ?_
    rintro e w90 ⟨rfl, hw⟩
    subst hw
    go_wp2_with fail
    refine (C1.out _ NV.out).mono ?_
    rintro e w14 ⟨rfl, h1⟩
    replace NV := Lib.hid ((NV.out.below h1).alloc (.cells #[.int .i64 A, .int .i64 M] 47))
    replace HB := Lib.hid ((bel_trans HB.out h1).alloc (bel_trans HB.out h1).size (.cells #[.int .i64 A, .int .i64 M] 47)); clear h1
    have T1 := Lib.hid (Two.new w14 (.int .i64 A) (.int .i64 M) 47)
    obtain ⟨T10, T11, T12, T13, T14⟩ := T1.out
    go_wp2_with fail
    refine (C2.out _ NV.out).mono ?_
    rintro e w16 ⟨rfl, h1⟩
    replace NV := Lib.hid (NV.out.below h1)
    replace T1 := Lib.hid (T1.out.below h1)
    replace HB := Lib.hid (bel_trans HB.out h1); clear h1
    obtain ⟨T10, T11, T12, T13, T14⟩ := T1.out
    go_wp2_with fail
    refine (C3.out _ NV.out).mono ?_
    rintro e w18 ⟨rfl, h1⟩
    replace NV := Lib.hid (NV.out.below h1)
    replace T1 := Lib.hid (T1.out.below h1)
    replace HB := Lib.hid (bel_trans HB.out h1); clear h1
    obtain ⟨T10, T11, T12, T13, T14⟩ := T1.out
    go_wp2_with fail
    refine (C4.out _ NV.out).mono ?_
    rintro e w20 ⟨rfl, h1⟩
    replace NV := Lib.hid (NV.out.below h1)
    replace T1 := Lib.hid (T1.out.below h1)
    replace HB := Lib.hid (bel_trans HB.out h1); clear h1
    obtain ⟨T10, T11, T12, T13, T14⟩ := T1.out
    go_wp2_with fail
    refine (C5.out _ NV.out).mono ?_
    rintro e w22 ⟨rfl, h1⟩
    replace NV := Lib.hid (NV.out.below h1)
    replace T1 := Lib.hid (T1.out.below h1)
    replace HB := Lib.hid (bel_trans HB.out h1); clear h1
    obtain ⟨T10, T11, T12, T13, T14⟩ := T1.out
    go_wp2_with fail
    refine (C6.out _ NV.out).mono ?_
    rintro e w24 ⟨rfl, h1⟩
    replace NV := Lib.hid (NV.out.below h1)
    replace T1 := Lib.hid (T1.out.below h1)
    replace HB := Lib.hid (bel_trans HB.out h1); clear h1
    obtain ⟨T10, T11, T12, T13, T14⟩ := T1.out
    go_wp2
    go_returns
    exact ⟨rfl, HB.out⟩

  · by_cases hs : s = 0
    · subst hs
      have HA := Lib.hid (fun W => awakeA_any W)
      have FW := Lib.hid (fun v W h => few_any v l W h)
      rw [hf] at FW
      have HB := Lib.hid (Below.refl w.heap.size w)
      go_enter Try.func11, Try.ntmps11
      go_wp2_with fail
      refine (HA.out _).mono ?_
      rintro e w28 ⟨rfl, h1⟩
      replace NV := Lib.hid (NV.out.below h1)
      replace HB := Lib.hid (bel_trans HB.out h1); clear h1
      go_wp2_with fail
      refine (FW.out _ _ NV.out).mono ?_
      rintro e w90 ⟨rfl, hw⟩
      subst hw
      go_wp2_with fail
      refine (C1.out _ NV.out).mono ?_
      rintro e w30 ⟨rfl, h1⟩
      replace NV := Lib.hid ((NV.out.below h1).alloc (.cells #[.int .i64 A, .int .i64 M] 47))
      replace HB := Lib.hid ((bel_trans HB.out h1).alloc (bel_trans HB.out h1).size (.cells #[.int .i64 A, .int .i64 M] 47)); clear h1
      have T1 := Lib.hid (Two.new w30 (.int .i64 A) (.int .i64 M) 47)
      obtain ⟨T10, T11, T12, T13, T14⟩ := T1.out
      go_wp2_with fail
      refine (C2.out _ NV.out).mono ?_
      rintro e w32 ⟨rfl, h1⟩
      replace NV := Lib.hid (NV.out.below h1)
      replace T1 := Lib.hid (T1.out.below h1)
      replace HB := Lib.hid (bel_trans HB.out h1); clear h1
      obtain ⟨T10, T11, T12, T13, T14⟩ := T1.out
      go_wp2_with fail
      refine (C3.out _ NV.out).mono ?_
      rintro e w34 ⟨rfl, h1⟩
      replace NV := Lib.hid (NV.out.below h1)
      replace T1 := Lib.hid (T1.out.below h1)
      replace HB := Lib.hid (bel_trans HB.out h1); clear h1
      obtain ⟨T10, T11, T12, T13, T14⟩ := T1.out
      go_wp2_with fail
      refine (C4.out _ NV.out).mono ?_
      rintro e w36 ⟨rfl, h1⟩
      replace NV := Lib.hid (NV.out.below h1)
      replace T1 := Lib.hid (T1.out.below h1)
      replace HB := Lib.hid (bel_trans HB.out h1); clear h1
      obtain ⟨T10, T11, T12, T13, T14⟩ := T1.out
      go_wp2_with fail
      refine (C5.out _ NV.out).mono ?_
      rintro e w38 ⟨rfl, h1⟩
      replace NV := Lib.hid (NV.out.below h1)
      replace T1 := Lib.hid (T1.out.below h1)
      replace HB := Lib.hid (bel_trans HB.out h1); clear h1
      obtain ⟨T10, T11, T12, T13, T14⟩ := T1.out
      go_wp2_with fail
      refine (C6.out _ NV.out).mono ?_
      rintro e w40 ⟨rfl, h1⟩
      replace NV := Lib.hid (NV.out.below h1)
      replace T1 := Lib.hid (T1.out.below h1)
      replace HB := Lib.hid (bel_trans HB.out h1); clear h1
      obtain ⟨T10, T11, T12, T13, T14⟩ := T1.out
      go_wp2
      go_returns
      exact ⟨rfl, HB.out⟩

    · have d2 : (0 == s) = false := by rw [beq_eq_false_iff_ne]; omega
      have HA := Lib.hid (fun W => awakeA_any W)
      have FW := Lib.hid (fun v W h => few_any v l W h)
      rw [hf] at FW
      have HB := Lib.hid (Below.refl w.heap.size w)
      go_enter Try.func11, Try.ntmps11
      go_wp2_with fail
      refine (HA.out _).mono ?_
      rintro e w44 ⟨rfl, h1⟩
      replace NV := Lib.hid (NV.out.below h1)
      replace HB := Lib.hid (bel_trans HB.out h1); clear h1
      go_wp2_with fail
      refine (FW.out _ _ NV.out).mono ?_
      rintro e w90 ⟨rfl, hw⟩
      subst hw
      go_wp2_with fail
      refine (C1.out _ NV.out).mono ?_
      rintro e w46 ⟨rfl, h1⟩
      replace NV := Lib.hid ((NV.out.below h1).alloc (.cells #[.int .i64 A, .int .i64 M] 47))
      replace HB := Lib.hid ((bel_trans HB.out h1).alloc (bel_trans HB.out h1).size (.cells #[.int .i64 A, .int .i64 M] 47)); clear h1
      have T1 := Lib.hid (Two.new w46 (.int .i64 A) (.int .i64 M) 47)
      obtain ⟨T10, T11, T12, T13, T14⟩ := T1.out
      go_wp2_with fail
      refine (C2.out _ NV.out).mono ?_
      rintro e w48 ⟨rfl, h1⟩
      replace NV := Lib.hid (NV.out.below h1)
      replace T1 := Lib.hid (T1.out.below h1)
      replace HB := Lib.hid (bel_trans HB.out h1); clear h1
      obtain ⟨T10, T11, T12, T13, T14⟩ := T1.out
      go_wp2_with fail
      refine (C3.out _ NV.out).mono ?_
      rintro e w50 ⟨rfl, h1⟩
      replace NV := Lib.hid (NV.out.below h1)
      replace T1 := Lib.hid (T1.out.below h1)
      replace HB := Lib.hid (bel_trans HB.out h1); clear h1
      obtain ⟨T10, T11, T12, T13, T14⟩ := T1.out
      go_wp2_with fail
      refine (C4.out _ NV.out).mono ?_
      rintro e w52 ⟨rfl, h1⟩
      replace NV := Lib.hid (NV.out.below h1)
      replace T1 := Lib.hid (T1.out.below h1)
      replace HB := Lib.hid (bel_trans HB.out h1); clear h1
      obtain ⟨T10, T11, T12, T13, T14⟩ := T1.out
      go_wp2_with fail
      refine (C5.out _ NV.out).mono ?_
      rintro e w54 ⟨rfl, h1⟩
      replace NV := Lib.hid (NV.out.below h1)
      replace T1 := Lib.hid (T1.out.below h1)
      replace HB := Lib.hid (bel_trans HB.out h1); clear h1
      obtain ⟨T10, T11, T12, T13, T14⟩ := T1.out
      go_wp2_with fail
      refine (C6.out _ NV.out).mono ?_
      rintro e w56 ⟨rfl, h1⟩
      replace NV := Lib.hid (NV.out.below h1)
      replace T1 := Lib.hid (T1.out.below h1)
      replace HB := Lib.hid (bel_trans HB.out h1); clear h1
      obtain ⟨T10, T11, T12, T13, T14⟩ := T1.out
      go_wp2
      go_returns
      exact ⟨rfl, HB.out⟩

theorem walk (v : Value) (l : List (Int × Int)) (x s : Int) (w : World) (hv : Pts w v l) (_ : -9223372036854775808 ≤ x ∧ x ≤ 9223372036854775807) (_ : -9223372036854775808 ≤ s ∧ s ≤ 9223372036854775807) :
    Calls Try.prog 11 #[v, .int .i64 x, .int .i64 s] w fun e w' => e = .returned (.bool true) ∧ Below w.heap.size w w' := by
  have hv2 := Lib.hid hv
  obtain ⟨a, cap, rfl, _, _⟩ := hv.shape
  cases h : fwB l.length with
  | false => exact long a l.length cap x s l w hv2 h
  | true =>
    have C1 := fun W h => alOf_any (.slice a l.length cap) l x s W h
    by_cases he : ofE l x s = 0
    · obtain ⟨hD, hx, hs⟩ := ofE_zero.1 he
      obtain ⟨hL, e1, e2⟩ := shows hD hx hs
      have ha := alE_zero.2 ⟨hD, hL⟩
      rw [show ofA l x s = x * s by unfold ofA; rw [if_pos he], show ofM l x s = x * atD l s by unfold ofM; rw [if_pos he], he] at C1
      have C2 := fun W h => alChk_any (.slice a l.length cap) l (x * s) (x * atD l s) W h
      have C3 := fun W h => alSt_any (.slice a l.length cap) l (x * s) (x * atD l s) W h
      have C4 := fun W h => alVl_any (.slice a l.length cap) l (x * s) (x * atD l s) W h
      have C5 := fun W h => alMa_any (.slice a l.length cap) l (x * s) (x * atD l s) x W h
      have C6 := fun W h => alLo_any (.slice a l.length cap) l (x * s) (x * atD l s) W h
      rw [ha] at C2
      have f1 : meE l (x * s) (x * atD l s) = 0 := by unfold meE; rw [if_pos ha]
      have f2 : sgV l (x * s) (x * atD l s) = (sgN l (x * s) (x * atD l s) : Int) := by unfold sgV; rw [if_pos ha]
      have f3 : vlV l (x * s) (x * atD l s) = x := by unfold vlV; rw [if_pos ha, e2]
      have f4 : maE l (x * s) (x * atD l s) x = 0 := by unfold maE; rw [if_neg (by omega), if_pos hx, e2, if_neg (by omega)]
      have f5 : maV l (x * s) (x * atD l s) x = x * atD l s := by
        unfold maV; rw [if_pos f4]
        by_cases z : x = 0
        · subst z; rw [Int.zero_mul, Int.zero_mul]
        · rw [e1 z]
      have f6 : loV l (x * s) (x * atD l s) = 0 := by
        unfold loV; rw [if_pos ha, e2]
        by_cases z : x = 0
        · subst z; rw [Int.zero_mul, Int.zero_mul]; rfl
        · rw [e1 z, Int.sub_self]
      rw [f2, f1] at C3
      rw [f3, f1] at C4
      rw [f5, f4] at C5
      rw [f6, f1] at C6
      refine good a l.length cap x s (x * s) (x * atD l s) (sgN l (x * s) (x * atD l s)) l w hv2 h ?_ (Lib.hid C1) (Lib.hid C2) (Lib.hid C3) (Lib.hid C4) (Lib.hid C5) (Lib.hid C6)
      by_cases z : x = 0
      · right
        refine ⟨z, ?_⟩
        subst z
        rw [Int.zero_mul, Int.zero_mul, sgN_dry]; rfl
      · exact .inl (e1 z)
    · rw [show ofA l x s = 0 by unfold ofA; rw [if_neg he], show ofM l x s = 0 by unfold ofM; rw [if_neg he]] at C1
      exact bad a l.length cap x s (ofE l x s) l w hv2 h (by simpa using he) (Lib.hid C1)

set_option maxRecDepth 100000 in
theorem lifted (os : Os) (started : os.Started) (H : Type) (enc : TypeId × Value → H) :
    ReturnsInHanded {} Try.checked os 11 .any (Rows.alcoholShowsSpec.pre6 enc Try.prog Try.f11 Rows.alcoholShowsRow.domain false) (Rows.alcoholShowsSpec.post enc Try.prog Try.f11 false true false false) := by
  refine returnsInHanded_of_change (C := Try.checked) own started (by kernel_rfl) Try.func11
    (ChangeSpec.witness6 (enc := enc) (C := Try.checked) false ⟨#[], #[.slice none 0 0, .int .i64 0, .int .i64 0], []⟩ 8 (by kernel_rfl) (by kernel_rfl) (by kernel_rfl) (by kernel_rfl)) ?_
  intro W base args ds gs before hval0 hW hcnd _
  have hval : ∀ (j : Nat) t v, Try.f11.params[j]? = some t → args[j]? = some v → Value.okWide Try.prog W .any base t v := hval0
  clear hval0
  have hW' := hW
  obtain ⟨p, q, hA0, hV, rfl, hfz, hnd⟩ := hW
  have hA : DataW.TrodAll enc Try.prog W 0 (fun _ => true) true Try.f11.params.toList args.toList ds p := hA0
  rw [Try.params11] at hA hval
  obtain ⟨v0, vs0, d0, ds0, p0, q0, hargs, rfl, rfl, h0, r0⟩ := trodAll_cons hA
  obtain ⟨v1, vs1, d1, ds1, p1, q1, rfl, rfl, rfl, h1, r1⟩ := trodAll_cons r0
  obtain ⟨v2, vs2, d2, ds2, p2, q2, rfl, rfl, rfl, h2, r2⟩ := trodAll_cons r1
  obtain ⟨rfl, rfl, rfl⟩ := trodAll_nil r2
  obtain rfl : args = #[v0, v1, v2] := by cases args; simp_all
  obtain ⟨rfl, rfl⟩ := trodVars_none hV
  have k0 := h0
  have lt0 : ∀ x ∈ p0, x.block < W.heap.size := by obtain ⟨m, hm⟩ := k0; exact DataW.trod_lt m _ _ _ hm
  have k1 := h1
  have lt1 : ∀ x ∈ p1, x.block < W.heap.size := by obtain ⟨m, hm⟩ := k1; exact DataW.trod_lt m _ _ _ hm
  have k2 := h2
  have lt2 : ∀ x ∈ p2, x.block < W.heap.size := by obtain ⟨m, hm⟩ := k2; exact DataW.trod_lt m _ _ _ hm
  obtain ⟨z0, w0⟩ := open_pts (hval 0 22 v0 rfl rfl) h0
  obtain ⟨a1, rfl, rfl, rfl, w1⟩ := open_int Try.underlying3 (hval 1 3 v1 rfl rfl) h1
  obtain ⟨a2, rfl, rfl, rfl, w2⟩ := open_int Try.underlying3 (hval 2 3 v2 rfl rfl) h2
  clear hA0
  refine (walk v0 z0 a1 a2 W w0 (wf_bd w1) (wf_bd w2)).mono fun e W' ⟨he, bel⟩ => ?_
  subst he
  exact ⟨_, rfl, _, _, _, [], _, [], hW', trodAll_mk1 (shut_bool Try.underlying4 _), (trodAll_cons_mk (Below.trod laidOut (by kernel_rfl) (of_decide_eq_true (by kernel_rfl)) k0 bel lt0) (trodAll_cons_mk (Below.trod laidOut (by kernel_rfl) (of_decide_eq_true (by kernel_rfl)) k1 bel lt1) (trodAll_cons_mk (Below.trod laidOut (by kernel_rfl) (of_decide_eq_true (by kernel_rfl)) k2 bel lt2) trodAll_mk0))), rfl, bel.frame _, fun h => by cases h⟩

theorem over : Rows.alcoholShowsRow.holds Try.pinned (OpenSpec.ofChange Rows.alcoholShowsSpec) :=
  OpenClaim.holds_of_wide 11 Try.f11 rfl rfl rfl rfl rfl rfl rfl ⟨rfl, rfl, rfl, rfl, rfl⟩ rfl rfl rfl rfl rfl (by kernel_rfl) Try.func11 (by kernel_rfl)
    (of_decide_eq_true (by kernel_rfl)) (by unfold Func.isWrapper; first | (rw [if_pos (by decide +kernel)]; kernel_rfl) | (rw [if_neg (by decide +kernel)]; exact ⟨rfl, rfl⟩))
    (fun os started H enc _ => lifted os started H enc)

theorem proved : Rows.AlcoholShowsSaid := over
#print axioms proved
end Go.Proofs.Ytadkhhkoankhnaa.alcoholShows

