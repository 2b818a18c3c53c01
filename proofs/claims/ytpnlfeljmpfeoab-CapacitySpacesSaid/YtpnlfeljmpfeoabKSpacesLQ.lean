/-
  The statement CapacitySpaces of spile/spilelaw10 holds: for every input the call returns true, and each argument reads afterwards as it read before.
-/
import Derived.Test.YtpnlfeljmpfeoabM3
import Derived.Below
import Derived.Carry
namespace Go.Proofs.Ytpnlfeljmpfeoab.capacitySpaces
open Go.ChangeShapes Go.WideShapes Go.ChangeAt Go.RowKit
open Go.ChangeMaps (open_string shut_string)
set_option linter.unusedVariables false

set_option maxHeartbeats 4000000 in
theorem long (a : Option Addr) (n cap : Nat) (w : World)
    (FW : Hid (∀ W, Below w.heap.size w W → Calls Try.prog 11 #[.slice a n cap] W fun e w' => e = .returned (.bool false) ∧ w' = W)) :
    Calls Try.prog 3 #[.slice a n cap] w fun e w' => e = .returned (.bool true) ∧ Below w.heap.size w w' := by
  have HA := Lib.hid (fun W => awake_any W)
  have HB := Lib.hid (Below.refl w.heap.size w)
  go_enter Try.func3, Try.ntmps3
  go_wp2_with fail
  refine (HA.out _).mono ?_
  rintro e w2 ⟨rfl, h1⟩
  replace HB := Lib.hid (bel_trans HB.out h1); clear h1
  go_wp2_with fail
  refine (FW.out _ HB.out).mono ?_
  rintro e w90 ⟨rfl, hw⟩
  subst hw
  go_wp2
  go_returns
  exact ⟨rfl, HB.out⟩
set_option maxHeartbeats 8000000 in
theorem core (a : Option Addr) (n cap : Nat) (l : List (Int × Int)) (w : World) (hz : Hid (l.length ≤ 33)) (NV : Hid (Pts w (.slice a n cap) l))
    (FW : Hid (∀ W, Below w.heap.size w W → Calls Try.prog 11 #[.slice a n cap] W fun e w' => e = .returned (.bool true) ∧ w' = W)) :
    Calls Try.prog 3 #[.slice a n cap] w fun e w' => e = .returned (.bool true) ∧ Below w.heap.size w w' := by
  have HA := Lib.hid (fun W => awake_any W)
  have H1 := Lib.hid (fun v W (h : Pts W v l) => cFru_any v l W h)
  have R1 := Lib.hid (fun v W (h : Pts W v l) => refFru_any v l W h)
  have H2 := Lib.hid (fun v W (h : Pts W v l) => cSpc_any v l W h)
  have R2 := Lib.hid (fun v W (h : Pts W v l) => refSpace_any v l W h)
  have Q1 : ∀ (p q : Int) W, (binOp .eql 32 (.agg #[.int .i64 p, .int .i64 q]) (.agg #[.int .i64 p, .int .i64 q])).run Try.prog W = .ok (.bool true) W := fun p q W => by rw [run_eql_bounds, show samB p q p q = true by simp [samB]]
  generalize fuQ l = F at *
  generalize spL l = L at *
  generalize spH l = H at *
  generalize ckE l = E at *
  have HB := Lib.hid (Below.refl w.heap.size w)
  go_enter Try.func3, Try.ntmps3
  go_wp2_with fail
  refine (HA.out _).mono ?_
  rintro e w5 ⟨rfl, h1⟩
  replace NV := Lib.hid (NV.out.below h1)
  replace HB := Lib.hid (bel_trans HB.out h1); clear h1
  go_wp2_with fail
  refine (FW.out _ HB.out).mono ?_
  rintro e w90 ⟨rfl, hw⟩
  subst hw
  clear FW
  go_wp2_with fail
  refine (clone_p _ l _ NV.out (Nat.le_trans hz.out (by omega))).mono ?_
  rintro e w6 ⟨V1, rfl, hx, h1⟩
  replace NV := Lib.hid (NV.out.below h1)
  replace HB := Lib.hid (bel_trans HB.out h1); clear h1
  have N1 := Lib.hid hx; clear hx
  go_wp2_with fail
  refine (H1.out _ _ N1.out).mono ?_
  rintro e w7 ⟨rfl, h1⟩
  replace NV := Lib.hid (NV.out.below h1)
  replace N1 := Lib.hid (N1.out.below h1)
  replace HB := Lib.hid (bel_trans HB.out h1); clear h1
  clear N1
  go_wp2_with fail
  refine (R1.out _ _ NV.out).mono ?_
  rintro e w9 ⟨rfl, h1⟩
  replace NV := Lib.hid (NV.out.below h1)
  replace HB := Lib.hid (bel_trans HB.out h1); clear h1
  go_wp2_with fail
  refine (clone_p _ l _ NV.out (Nat.le_trans hz.out (by omega))).mono ?_
  rintro e w10 ⟨V2, rfl, hx, h1⟩
  replace NV := Lib.hid (NV.out.below h1)
  replace HB := Lib.hid (bel_trans HB.out h1); clear h1
  have N2 := Lib.hid hx; clear hx
  go_wp2_with fail
  refine (H2.out _ _ N2.out).mono ?_
  rintro e w11 ⟨rfl, h1⟩
  replace NV := Lib.hid ((NV.out.below h1).alloc (.cells #[.int .i64 L, .int .i64 H] 32))
  replace N2 := Lib.hid ((N2.out.below h1).alloc (.cells #[.int .i64 L, .int .i64 H] 32))
  replace HB := Lib.hid ((bel_trans HB.out h1).alloc (bel_trans HB.out h1).size (.cells #[.int .i64 L, .int .i64 H] 32)); clear h1
  have T1 := Lib.hid (Two.new w11 (.int .i64 L) (.int .i64 H) 32)
  go_wp2_with fail
  refine (R2.out _ _ NV.out).mono ?_
  rintro e w12 ⟨rfl, h1⟩
  replace NV := Lib.hid ((NV.out.below h1).alloc (.cells #[.int .i64 L, .int .i64 H] 32))
  replace N2 := Lib.hid ((N2.out.below h1).alloc (.cells #[.int .i64 L, .int .i64 H] 32))
  replace T1 := Lib.hid ((T1.out.below h1).alloc (.cells #[.int .i64 L, .int .i64 H] 32))
  replace HB := Lib.hid ((bel_trans HB.out h1).alloc (bel_trans HB.out h1).size (.cells #[.int .i64 L, .int .i64 H] 32)); clear h1
  have T2 := Lib.hid (Two.new w12 (.int .i64 L) (.int .i64 H) 32)
  obtain ⟨T10, T11, T12, T13, T14⟩ := T1.out
  obtain ⟨T20, T21, T22, T23, T24⟩ := T2.out
  go_wp2
  go_returns
  exact ⟨rfl, HB.out⟩
theorem walk (v : Value) (l : List (Int × Int)) (w : World) (hv : Pts w v l) :
    Calls Try.prog 3 #[v] w fun e w' => e = .returned (.bool true) ∧ Below w.heap.size w w' := by
  have hv2 := hv
  obtain ⟨a, cap, rfl, _, _⟩ := hv.shape
  by_cases h : l.length ≤ 33
  · refine core a l.length cap l w (Lib.hid (by omega)) hv2 (Lib.hid fun W hW => ?_)
    have := few_any _ l W (hv2.below hW)
    rwa [decide_eq_true h] at this
  · refine long a l.length cap w (Lib.hid fun W hW => ?_)
    have := few_any _ l W (hv2.below hW)
    rwa [decide_eq_false h] at this

set_option maxRecDepth 100000 in
theorem lifted (os : Os) (started : os.Started) (H : Type) (enc : TypeId × Value → H) :
    ReturnsInHanded {} Try.checked os 3 .any (Rows.capacitySpacesSpec.pre6 enc Try.prog Try.f3 Rows.capacitySpacesRow.domain false) (Rows.capacitySpacesSpec.post enc Try.prog Try.f3 false true false false) := by
  refine returnsInHanded_of_change (C := Try.checked) own started (by kernel_rfl) Try.func3
    (ChangeSpec.witness6 (enc := enc) (C := Try.checked) false ⟨#[], #[.slice none 0 0], []⟩ 8 (by kernel_rfl) (by kernel_rfl) (by kernel_rfl) (by kernel_rfl)) ?_
  intro W base args ds gs before hval0 hW hcnd _
  have hval : ∀ (j : Nat) t v, Try.f3.params[j]? = some t → args[j]? = some v → Value.okWide Try.prog W .any base t v := hval0
  clear hval0
  have hW' := hW
  obtain ⟨p, q, hA0, hV, rfl, hfz, hnd⟩ := hW
  have hA : DataW.TrodAll enc Try.prog W 0 (fun _ => true) true Try.f3.params.toList args.toList ds p := hA0
  rw [Try.params3] at hA hval
  obtain ⟨v0, vs0, d0, ds0, p0, q0, hargs, rfl, rfl, h0, r0⟩ := trodAll_cons hA
  obtain ⟨rfl, rfl, rfl⟩ := trodAll_nil r0
  obtain rfl : args = #[v0] := by cases args; simp_all
  obtain ⟨rfl, rfl⟩ := trodVars_none hV
  have k0 := h0
  have lt0 : ∀ x ∈ p0, x.block < W.heap.size := by obtain ⟨m, hm⟩ := k0; exact DataW.trod_lt m _ _ _ hm
  obtain ⟨z0, w0⟩ := open_pts (hval 0 22 v0 rfl rfl) h0
  clear hA0
  refine (walk v0 z0 W w0).mono fun e W' ⟨he, bel⟩ => ?_
  subst he
  exact ⟨_, rfl, _, _, _, [], _, [], hW', trodAll_mk1 (shut_bool Try.underlying4 _), (trodAll_cons_mk (Below.trod laidOut (by kernel_rfl) (of_decide_eq_true (by kernel_rfl)) k0 bel lt0) trodAll_mk0), rfl, bel.frame _, fun h => by cases h⟩

theorem over : Rows.capacitySpacesRow.holds Try.pinned (OpenSpec.ofChange Rows.capacitySpacesSpec) :=
  OpenClaim.holds_of_wide 3 Try.f3 rfl rfl rfl rfl rfl rfl rfl ⟨rfl, rfl, rfl, rfl, rfl⟩ rfl rfl rfl rfl rfl (by kernel_rfl) Try.func3 (by kernel_rfl)
    (of_decide_eq_true (by kernel_rfl)) (by unfold Func.isWrapper; first | (rw [if_pos (by decide +kernel)]; kernel_rfl) | (rw [if_neg (by decide +kernel)]; exact ⟨rfl, rfl⟩))
    (fun os started H enc _ => lifted os started H enc)

theorem proved : Rows.CapacitySpacesSaid := over
#print axioms proved
end Go.Proofs.Ytpnlfeljmpfeoab.capacitySpaces
