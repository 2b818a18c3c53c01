/-
  The statement AlcoholChecks of spile/spilelaw20 holds: for every input the call returns true, and each argument reads afterwards as it read before.
-/
import Derived.Test.YtadkhhkoankhnaaM2
import Derived.Test.YtadkhhkoankhnaaM1
import Derived.Below
import Derived.Carry
set_option linter.unusedVariables false
set_option linter.unusedSimpArgs false
namespace Go.Proofs.Ytadkhhkoankhnaa.alcoholChecks
open Go.ChangeShapes Go.WideShapes Go.ChangeAt Go.RowKit
open Go.ChangeMaps (open_string shut_string)
set_option linter.unusedVariables false

set_option maxHeartbeats 8000000 in
set_option maxRecDepth 100000 in
theorem long (a : Option Addr) (n cap : Nat) (A M x s : Int) (l : List (Int × Int)) (w : World) (NV : Hid (Pts w (.slice a n cap) l)) (hf : fwB l.length = false) :
    Calls Try.prog 9 #[.slice a n cap, .agg #[.int .i64 A, .int .i64 M], .int .i64 x, .int .i64 s] w fun e w' => e = .returned (.bool true) ∧ Below w.heap.size w w' := by
  have HA := Lib.hid (fun W => awakeA_any W)
  have FW := Lib.hid (fun v W h => few_any v l W h)
  rw [hf] at FW
  have HB := Lib.hid (Below.refl w.heap.size w)
  replace HB := Lib.hid (bel_alloc (w := w) (o := .cells #[.int .i64 A, .int .i64 M] 47) (Below.refl _ _))
  have T0 := Lib.hid (Two.new w (.int .i64 A) (.int .i64 M) 47)
  replace NV := Lib.hid (NV.out.alloc (.cells #[.int .i64 A, .int .i64 M] 47))
  obtain ⟨T00, T01, T02, T03, T04⟩ := T0.out
  go_enter Try.func9, Try.ntmps9
  go_wp2_with fail
  refine (HA.out _).mono ?_
  rintro e w4 ⟨rfl, h1⟩
  replace NV := Lib.hid (NV.out.below h1)
  replace T0 := Lib.hid (T0.out.below h1)
  replace HB := Lib.hid (bel_trans HB.out h1); clear h1
  obtain ⟨T00, T01, T02, T03, T04⟩ := T0.out
  go_wp2_with fail
  refine (FW.out _ _ NV.out).mono ?_
  rintro e w90 ⟨rfl, hw⟩
  subst hw
  go_wp2
  go_returns
  exact ⟨rfl, HB.out⟩
set_option maxHeartbeats 16000000 in
set_option maxRecDepth 100000 in
theorem core (a : Option Addr) (n cap : Nat) (A M x s B K E1 E2 : Int) (l : List (Int × Int)) (w : World) (NV : Hid (Pts w (.slice a n cap) l)) (hf : fwB l.length = true)
    (C1 : Hid (∀ W, Pts W (.slice a n cap) l → Calls Try.prog 34 #[.slice a n cap, .int .i64 x, .int .i64 s] W fun e w' => e = .returned (.tuple #[.agg #[.int .i64 B, .int .i64 K], .int .i64 E1]) ∧ Below W.heap.size W w'))
    (C2 : Hid (∀ W, Pts W (.slice a n cap) l → Calls Try.prog 35 #[.slice a n cap, .int .i64 x, .int .i64 s] W fun e w' => e = .returned (.tuple #[.agg #[.int .i64 B, .int .i64 K], .int .i64 E1]) ∧ Below W.heap.size W w'))
    (C3 : Hid (∀ W, Pts W (.slice a n cap) l → Calls Try.prog 36 #[.slice a n cap, .agg #[.int .i64 A, .int .i64 M]] W fun e w' => e = .returned (.int .i64 E2) ∧ Below W.heap.size W w'))
    (C4 : Hid (∀ W, Pts W (.slice a n cap) l → Calls Try.prog 37 #[.slice a n cap, .agg #[.int .i64 A, .int .i64 M]] W fun e w' => e = .returned (.int .i64 E2) ∧ Below W.heap.size W w')) :
    Calls Try.prog 9 #[.slice a n cap, .agg #[.int .i64 A, .int .i64 M], .int .i64 x, .int .i64 s] w fun e w' => e = .returned (.bool true) ∧ Below w.heap.size w w' := by
  have q1 : ∀ W, (binOp .eql 47 (.agg #[.int .i64 B, .int .i64 K]) (.agg #[.int .i64 B, .int .i64 K])).run Try.prog W = .ok (.bool true) W := fun W => by rw [run_eql_liq]; simp [samP]
  have HA := Lib.hid (fun W => awakeA_any W)
  have FW := Lib.hid (fun v W h => few_any v l W h)
  rw [hf] at FW
  have HB := Lib.hid (Below.refl w.heap.size w)
  replace HB := Lib.hid (bel_alloc (w := w) (o := .cells #[.int .i64 A, .int .i64 M] 47) (Below.refl _ _))
  have T0 := Lib.hid (Two.new w (.int .i64 A) (.int .i64 M) 47)
  replace NV := Lib.hid (NV.out.alloc (.cells #[.int .i64 A, .int .i64 M] 47))
  obtain ⟨T00, T01, T02, T03, T04⟩ := T0.out
  go_enter Try.func9, Try.ntmps9
  go_wp2_with fail
  refine (HA.out _).mono ?_
  rintro e w9 ⟨rfl, h1⟩
  replace NV := Lib.hid (NV.out.below h1)
  replace T0 := Lib.hid (T0.out.below h1)
  replace HB := Lib.hid (bel_trans HB.out h1); clear h1
  obtain ⟨T00, T01, T02, T03, T04⟩ := T0.out
  go_wp2_with fail
  refine (FW.out _ _ NV.out).mono ?_
  rintro e w90 ⟨rfl, hw⟩
  subst hw
  go_wp2_with fail
  refine (C1.out _ NV.out).mono ?_
  rintro e w12 ⟨rfl, h1⟩
  replace NV := Lib.hid ((NV.out.below h1).alloc (.cells #[.int .i64 B, .int .i64 K] 47))
  replace T0 := Lib.hid ((T0.out.below h1).alloc (.cells #[.int .i64 B, .int .i64 K] 47))
  replace HB := Lib.hid ((bel_trans HB.out h1).alloc (bel_trans HB.out h1).size (.cells #[.int .i64 B, .int .i64 K] 47)); clear h1
  have T1 := Lib.hid (Two.new w12 (.int .i64 B) (.int .i64 K) 47)
  go_wp2_with fail
  refine (C2.out _ NV.out).mono ?_
  rintro e w13 ⟨rfl, h1⟩
  replace NV := Lib.hid ((NV.out.below h1).alloc (.cells #[.int .i64 B, .int .i64 K] 47))
  replace T0 := Lib.hid ((T0.out.below h1).alloc (.cells #[.int .i64 B, .int .i64 K] 47))
  replace T1 := Lib.hid ((T1.out.below h1).alloc (.cells #[.int .i64 B, .int .i64 K] 47))
  replace HB := Lib.hid ((bel_trans HB.out h1).alloc (bel_trans HB.out h1).size (.cells #[.int .i64 B, .int .i64 K] 47)); clear h1
  have T2 := Lib.hid (Two.new w13 (.int .i64 B) (.int .i64 K) 47)
  go_wp2_with fail
  replace NV := Lib.hid (NV.out.below (bel_drew (w13.alloc (.cells #[.int .i64 B, .int .i64 K] 47))))
  replace T0 := Lib.hid (T0.out.below (bel_drew (w13.alloc (.cells #[.int .i64 B, .int .i64 K] 47))))
  replace T1 := Lib.hid (T1.out.below (bel_drew (w13.alloc (.cells #[.int .i64 B, .int .i64 K] 47))))
  replace T2 := Lib.hid (T2.out.below (bel_drew (w13.alloc (.cells #[.int .i64 B, .int .i64 K] 47))))
  replace HB := Lib.hid (bel_trans HB.out (bel_drew (w13.alloc (.cells #[.int .i64 B, .int .i64 K] 47))))
  obtain ⟨T00, T01, T02, T03, T04⟩ := T0.out
  obtain ⟨T10, T11, T12, T13, T14⟩ := T1.out
  obtain ⟨T20, T21, T22, T23, T24⟩ := T2.out
  go_region_held3 (fun w' => w'.cell? ⟨w.heap.size, 0, none⟩ = some (.int .i64 A) ∧ w'.cell? ⟨w.heap.size, 1, none⟩ = some (.int .i64 M) ∧ w'.cell? ⟨w12.heap.size, 0, none⟩ = some (.int .i64 B) ∧ w'.cell? ⟨w12.heap.size, 1, none⟩ = some (.int .i64 K) ∧ w'.cell? ⟨w13.heap.size, 0, none⟩ = some (.int .i64 B) ∧ w'.cell? ⟨w13.heap.size, 1, none⟩ = some (.int .i64 K)) (go_keep) (first
    | (go_at_call 36; (with_reducible refine (C3.out _ NV.out).mono ?_); rintro e w83 ⟨rfl, h1⟩; replace NV := Lib.hid (NV.out.below h1); replace T0 := Lib.hid (T0.out.below h1); replace T1 := Lib.hid (T1.out.below h1); replace T2 := Lib.hid (T2.out.below h1); replace HB := Lib.hid (bel_trans HB.out h1); clear h1; obtain ⟨T00, T01, _, _, _⟩ := T0.out; obtain ⟨T10, T11, _, _, _⟩ := T1.out; obtain ⟨T20, T21, _, _, _⟩ := T2.out)
    | (go_at_call 37; (with_reducible refine (C4.out _ NV.out).mono ?_); rintro e w84 ⟨rfl, h1⟩; replace NV := Lib.hid (NV.out.below h1); replace T0 := Lib.hid (T0.out.below h1); replace T1 := Lib.hid (T1.out.below h1); replace T2 := Lib.hid (T2.out.below h1); replace HB := Lib.hid (bel_trans HB.out h1); clear h1; obtain ⟨T00, T01, _, _, _⟩ := T0.out; obtain ⟨T10, T11, _, _, _⟩ := T1.out; obtain ⟨T20, T21, _, _, _⟩ := T2.out))
  all_goals go_wp2
  all_goals go_returns
  all_goals exact ⟨rfl, HB.out⟩
theorem walk (v : Value) (l : List (Int × Int)) (A M x s : Int) (w : World) (hv : Pts w v l) (_ : -9223372036854775808 ≤ A ∧ A ≤ 9223372036854775807) (_ : -9223372036854775808 ≤ M ∧ M ≤ 9223372036854775807) (_ : -9223372036854775808 ≤ x ∧ x ≤ 9223372036854775807) (_ : -9223372036854775808 ≤ s ∧ s ≤ 9223372036854775807) :
    Calls Try.prog 9 #[v, .agg #[.int .i64 A, .int .i64 M], .int .i64 x, .int .i64 s] w fun e w' => e = .returned (.bool true) ∧ Below w.heap.size w w' := by
  have hv2 := Lib.hid hv
  obtain ⟨a, cap, rfl, _, _⟩ := hv.shape
  cases h : fwB l.length with
  | false => exact long a l.length cap A M x s l w hv2 h
  | true => exact core a l.length cap A M x s _ _ _ _ l w hv2 h (Lib.hid fun W h => alOf_any _ l x s W h) (Lib.hid fun W h => rlOf_any _ l x s W h) (Lib.hid fun W h => alChk_any _ l A M W h) (Lib.hid fun W h => rlChk_any _ l A M W h)

set_option maxRecDepth 100000 in
theorem lifted (os : Os) (started : os.Started) (H : Type) (enc : TypeId × Value → H) :
    ReturnsInHanded {} Try.checked os 9 .any (Rows.alcoholChecksSpec.pre6 enc Try.prog Try.f9 Rows.alcoholChecksRow.domain false) (Rows.alcoholChecksSpec.post enc Try.prog Try.f9 false true false false) := by
  refine returnsInHanded_of_change (C := Try.checked) own started (by kernel_rfl) Try.func9
    (ChangeSpec.witness6 (enc := enc) (C := Try.checked) false ⟨#[], #[.slice none 0 0, .agg #[.int .i64 0, .int .i64 0], .int .i64 0, .int .i64 0], []⟩ 8 (by kernel_rfl) (by kernel_rfl) (by kernel_rfl) (by kernel_rfl)) ?_
  intro W base args ds gs before hval0 hW hcnd _
  have hval : ∀ (j : Nat) t v, Try.f9.params[j]? = some t → args[j]? = some v → Value.okWide Try.prog W .any base t v := hval0
  clear hval0
  have hW' := hW
  obtain ⟨p, q, hA0, hV, rfl, hfz, hnd⟩ := hW
  have hA : DataW.TrodAll enc Try.prog W 0 (fun _ => true) true Try.f9.params.toList args.toList ds p := hA0
  rw [Try.params9] at hA hval
  obtain ⟨v0, vs0, d0, ds0, p0, q0, hargs, rfl, rfl, h0, r0⟩ := trodAll_cons hA
  obtain ⟨v1, vs1, d1, ds1, p1, q1, rfl, rfl, rfl, h1, r1⟩ := trodAll_cons r0
  obtain ⟨v2, vs2, d2, ds2, p2, q2, rfl, rfl, rfl, h2, r2⟩ := trodAll_cons r1
  obtain ⟨v3, vs3, d3, ds3, p3, q3, rfl, rfl, rfl, h3, r3⟩ := trodAll_cons r2
  obtain ⟨rfl, rfl, rfl⟩ := trodAll_nil r3
  obtain rfl : args = #[v0, v1, v2, v3] := by cases args; simp_all
  obtain ⟨rfl, rfl⟩ := trodVars_none hV
  have k0 := h0
  have lt0 : ∀ x ∈ p0, x.block < W.heap.size := by obtain ⟨m, hm⟩ := k0; exact DataW.trod_lt m _ _ _ hm
  have k1 := h1
  have lt1 : ∀ x ∈ p1, x.block < W.heap.size := by obtain ⟨m, hm⟩ := k1; exact DataW.trod_lt m _ _ _ hm
  have k2 := h2
  have lt2 : ∀ x ∈ p2, x.block < W.heap.size := by obtain ⟨m, hm⟩ := k2; exact DataW.trod_lt m _ _ _ hm
  have k3 := h3
  have lt3 : ∀ x ∈ p3, x.block < W.heap.size := by obtain ⟨m, hm⟩ := k3; exact DataW.trod_lt m _ _ _ hm
  obtain ⟨z0, w0⟩ := open_pts (hval 0 22 v0 rfl rfl) h0
  obtain ⟨y1, m1, rfl, wy1, wm1⟩ := open_liq (hval 1 47 v1 rfl rfl) h1
  obtain ⟨a2, rfl, rfl, rfl, w2⟩ := open_int Try.underlying3 (hval 2 3 v2 rfl rfl) h2
  obtain ⟨a3, rfl, rfl, rfl, w3⟩ := open_int Try.underlying3 (hval 3 3 v3 rfl rfl) h3
  clear hA0
  refine (walk v0 z0 y1 m1 a2 a3 W w0 wy1 wm1 (wf_bd w2) (wf_bd w3)).mono fun e W' ⟨he, bel⟩ => ?_
  subst he
  exact ⟨_, rfl, _, _, _, [], _, [], hW', trodAll_mk1 (shut_bool Try.underlying4 _), (trodAll_cons_mk (Below.trod laidOut (by kernel_rfl) (of_decide_eq_true (by kernel_rfl)) k0 bel lt0) (trodAll_cons_mk (Below.trod laidOut (by kernel_rfl) (of_decide_eq_true (by kernel_rfl)) k1 bel lt1) (trodAll_cons_mk (Below.trod laidOut (by kernel_rfl) (of_decide_eq_true (by kernel_rfl)) k2 bel lt2) (trodAll_cons_mk (Below.trod laidOut (by kernel_rfl) (of_decide_eq_true (by kernel_rfl)) k3 bel lt3) trodAll_mk0)))), rfl, bel.frame _, fun h => by cases h⟩

theorem over : Rows.alcoholChecksRow.holds Try.pinned (OpenSpec.ofChange Rows.alcoholChecksSpec) :=
  OpenClaim.holds_of_wide 9 Try.f9 rfl rfl rfl rfl rfl rfl rfl ⟨rfl, rfl, rfl, rfl, rfl⟩ rfl rfl rfl rfl rfl (by kernel_rfl) Try.func9 (by kernel_rfl)
    (of_decide_eq_true (by kernel_rfl)) (by unfold Func.isWrapper; first | (rw [if_pos (by decide +kernel)]; kernel_rfl) | (rw [if_neg (by decide +kernel)]; exact ⟨rfl, rfl⟩))
    (fun os started H enc _ => lifted os started H enc)

theorem proved : Rows.AlcoholChecksSaid := over
#print axioms proved
end Go.Proofs.Ytadkhhkoankhnaa.alcoholChecks

